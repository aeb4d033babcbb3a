import PyProof.Rows.All
import PyProof.EqLayable
import Wide.All
import OpenK.AllK
import Wide.FinOn
import HandS.ForMost
import HandS.IsInst
import HandS.TupAny
import HandS.TupMul
import HandS.Zip
import HandS.Rev
import HandS.RevRange
import HandS.Walk
import HandS.Style
import HandS.Wide
import HandS.Iter
import KE.GoesMore
import KE.GoesEnum
import KE.KStateDown
import HandS.More
import HandS.WordsExc
import HandS.Defaults
import HandS.Head0
import HandS.Head1
import HandS.Head2
import HandS.HeadEnd
import HandS.HeadHook1
import HandS.HeadHook2
import PySem.Challenge.RW_taprows_k05_whole_fractions
section
set_option linter.all false
/-! IP: an environment of pure data with owned lists; what a piece of the text does to it, as a total function. -/
namespace IP
open PySem
abbrev D := PyData
/-- a list or tuple or text within the model's bounds -/
abbrev line : Nat := 16000000
inductive Slot where
  | un | dat (d : D) | own (ds : List D) | prm (ds : List D)
abbrev Env := List Slot
inductive Res where
  | dat (d : D) | new (ds : List D)
inductive Opd where
  | val (d : D) | at (i : Nat)
inductive Out where
  | nx | bk | ct | rt (r : Res)
@[simp] def Res.toD : Res → D
  | .dat d => d
  | .new ds => .list ds
abbrev Ev := Env → Option (Res × Env)
abbrev Eo := Env → Option (Opd × Env)
abbrev Et := Env → Option (Bool × Env)
abbrev Ea := Env → Option (List Opd × Env)
abbrev Es := Env → Option (Out × Env)
/-- a function of the text: its one list handed by reference (if it has one), the data; the answer, that list behind it -/
abbrev Fnc := Option (List D) → List D → Option (Res × Option (List D))
abbrev Call := String → Fnc

@[simp] def slotD : Slot → Option D
  | .dat d => some d
  | .own ds => some (.list ds)
  | .prm ds => some (.list ds)
  | .un => none
@[simp] def rd (δ : Env) : Opd → Option D
  | .val d => some d
  | .at i => (δ[i]?).bind slotD
@[simp] def rdAll (δ : Env) : List Opd → Option (List D)
  | [] => some []
  | o :: os => (rd δ o).bind fun d => (rdAll δ os).map fun ds => d :: ds
/-- what a variable gives as a value that is kept: an owned list is owned no more -/
@[simp] def freeze (δ : Env) (i : Nat) : Env := match δ[i]? with
  | some (.own ds) => δ.set i (.dat (.list ds))
  | _ => δ

/-- the script, as data: a list that is read only -/
def scr (ns : List Int) : D := .dict [(.none, .tuple (ns.map .int))]

/-! ### structural equality -/
mutual
def same : D → D → Bool
  | .none, .none => true
  | .bool a, .bool b => a == b
  | .int a, .int b => a == b
  | .str a, .str b => decide (a = b)
  | .list a, .list b => sameAll a b
  | .tuple a, .tuple b => sameAll a b
  | _, _ => false
def sameAll : List D → List D → Bool
  | [], [] => true
  | x :: xs, y :: ys => same x y && sameAll xs ys
  | _, _ => false
end
mutual
@[simp] def noList : D → Bool
  | .list _ => false
  | .dict _ => false
  | .tuple xs => noListAll xs
  | _ => true
@[simp] def noListAll : List D → Bool
  | [] => true
  | x :: xs => noList x && noListAll xs
end

/-! ### values -/
@[simp] def vC (d : D) : Ev := fun δ => some (.dat d, δ)
@[simp] def vVar (i : Nat) : Ev := fun δ => match δ[i]? with
  | some (.dat d) => some (.dat d, δ)
  | some (.own ds) => some (.dat (.list ds), freeze δ i)
  | _ => none
@[simp] def oVar (i : Nat) : Eo := fun δ => match δ[i]? with
  | some (.dat d) => some (.val d, δ)
  | some (.own _) => some (.at i, δ)
  | some (.prm _) => some (.at i, δ)
  | _ => none
@[simp] def oV (f : Ev) : Eo := fun δ => (f δ).map fun p => (.val p.1.toD, p.2)
@[simp] def fBin (op : D → D → Option Res) (f g : Eo) : Ev := fun δ =>
  (f δ).bind fun p => (g p.2).bind fun q => (rd q.2 p.1).bind fun x => (rd q.2 q.1).bind fun y => (op x y).map fun r => (r, q.2)
@[simp] def fUn (op : D → Option Res) (f : Eo) : Ev := fun δ => (f δ).bind fun p => (rd p.2 p.1).bind fun x => (op x).map fun r => (r, p.2)

/-! ### the operators on data -/
def intsOf : List D → Option (List Int)
  | [] => some []
  | .int i :: ds => (intsOf ds).map fun is => i :: is
  | _ => none
def boolsOf : List D → Option (List Bool)
  | [] => some []
  | .bool i :: ds => (boolsOf ds).map fun is => i :: is
  | _ => none
@[simp] def bAdd : D → D → Option Res
  | .int a, .int b => some (.dat (.int (a + b)))
  | .tuple a, .tuple b => if a.length + b.length ≤ line then some (.dat (.tuple (a ++ b))) else none
  | .list a, .list b => if a.length + b.length ≤ line then some (.new (a ++ b)) else none
  | _, _ => none
@[simp] def bSub : D → D → Option Res
  | .int a, .int b => some (.dat (.int (a - b)))
  | _, _ => none
@[simp] def bMul : D → D → Option Res
  | .int a, .int b => if ((-(2 ^ 64) < a ∧ a < 2 ^ 64) ∨ (-(2 ^ 64) < b ∧ b < 2 ^ 64)) ∨ a.natAbs.log2 + b.natAbs.log2 < 1000000 then some (.dat (.int (a * b))) else none
  | .list a, .int k => if -(2 ^ 63) ≤ k ∧ k < 2 ^ 63 ∧ a.length * k.toNat ≤ line then some (.new (List.replicate k.toNat a).flatten) else none
  | .tuple a, .int k => if -(2 ^ 62) ≤ k ∧ k ≤ 2 ^ 62 ∧ a.length * k.toNat ≤ line then some (.dat (.tuple (List.replicate k.toNat a).flatten)) else none
  | _, _ => none
@[simp] def bFdiv : D → D → Option Res
  | .int a, .int b => if 0 < b ∧ (b < 1073741824 ∨ b.natAbs.log2 < 9000) then some (.dat (.int (a / b))) else none
  | _, _ => none
@[simp] def bMod : D → D → Option Res
  | .int a, .int b => if 0 < b then some (.dat (.int (a % b))) else none
  | _, _ => none
@[simp] def bPow : D → D → Option Res
  | .int a, .int b => if 0 ≤ b ∧ b ≤ 1000000 ∧ a.natAbs < 2 ^ 64 then some (.dat (.int (a ^ b.toNat))) else none
  | _, _ => none
@[simp] def bShr : D → D → Option Res
  | .int a, .int b => if 0 ≤ b then some (.dat (.int (a / 2 ^ b.toNat))) else none
  | _, _ => none
@[simp] def bLt : D → D → Option Res
  | .int a, .int b => some (.dat (.bool (decide (a < b))))
  | _, _ => none
@[simp] def bLe : D → D → Option Res
  | .int a, .int b => some (.dat (.bool (decide (a ≤ b))))
  | _, _ => none
@[simp] def bGt : D → D → Option Res
  | .int a, .int b => some (.dat (.bool (decide (b < a))))
  | _, _ => none
@[simp] def bGe : D → D → Option Res
  | .int a, .int b => some (.dat (.bool (decide (b ≤ a))))
  | _, _ => none
@[simp] def bEq (a b : D) : Option Res := if SeqAt.shaped a = true ∧ SeqAt.shaped b = true then some (.dat (.bool (PyData.eqv a b))) else none
@[simp] def bNe (a b : D) : Option Res := if SeqAt.shaped a = true ∧ SeqAt.shaped b = true then some (.dat (.bool (!PyData.eqv a b))) else none
@[simp] def bIn : D → D → Option Res
  | .int i, .list ds => (intsOf ds).map fun is => .dat (.bool (decide (i ∈ is)))
  | .int i, .tuple ds => (intsOf ds).map fun is => .dat (.bool (decide (i ∈ is)))
  | _, _ => none
@[simp] def bNotIn : D → D → Option Res
  | .int i, .list ds => (intsOf ds).map fun is => .dat (.bool (!decide (i ∈ is)))
  | .int i, .tuple ds => (intsOf ds).map fun is => .dat (.bool (!decide (i ∈ is)))
  | _, _ => none
@[simp] def uNeg : D → Option Res
  | .int a => some (.dat (.int (-a)))
  | _ => none
@[simp] def isNone : D → Bool
  | .none => true
  | _ => false
@[simp] def uIsN (d : D) : Option Res := some (.dat (.bool (isNone d)))
@[simp] def uNotN (d : D) : Option Res := some (.dat (.bool (!isNone d)))
/-- an int within -n .. n - 1 as a place -/
def ixN (n : Nat) (i : Int) : Option Nat := if 0 ≤ i then (if i < n then some i.toNat else none) else if -(n : Int) ≤ i then some (i + n).toNat else none
def atD (xs : List D) (i : Int) : Option D := (ixN xs.length i).bind fun j => xs[j]?
@[simp] def bIx : D → D → Option Res
  | .list xs, .int i => (atD xs i).map .dat
  | .tuple xs, .int i => (atD xs i).map .dat
  | .dict [(.none, .tuple xs)], .int i => (atD xs i).map .dat
  | _, _ => none
def clampIx (n d : Nat) : Option Int → Nat
  | none => d
  | some i => if i < 0 then (i + (n : Int)).toNat else min i.toNat n
def cutD (xs : List D) (lo hi : Option Int) : List D := (xs.drop (clampIx xs.length 0 lo)).take (clampIx xs.length xs.length hi - clampIx xs.length 0 lo)
/-- an optional bound of a slice -/
@[simp] def pNo : Env → Option (Option Int × Env) := fun δ => some (none, δ)
@[simp] def pSo (f : Eo) : Env → Option (Option Int × Env) := fun δ => (f δ).bind fun p => match p.1 with
  | .val (.int i) => some (some i, p.2)
  | _ => none
@[simp] def fSl (f : Eo) (lo hi : Env → Option (Option Int × Env)) : Ev := fun δ =>
  (f δ).bind fun p => (lo p.2).bind fun l => (hi l.2).bind fun h => (rd h.2 p.1).bind fun x => match x with
    | .list xs => some (.new (cutD xs l.1 h.1), h.2)
    | .tuple xs => some (.dat (.tuple (cutD xs l.1 h.1)), h.2)
    | _ => none

/-! ### tests -/
@[simp] def truth : D → Option Bool
  | .none => some false
  | .bool b => some b
  | .int i => some (i != 0)
  | .list xs => some (!xs.isEmpty)
  | .tuple xs => some (!xs.isEmpty)
  | _ => none
@[simp] def tV (f : Eo) : Et := fun δ => (f δ).bind fun p => (rd p.2 p.1).bind fun d => (truth d).map fun b => (b, p.2)
/-- a value that is a bool -/
@[simp] def tB (f : Ev) : Et := fun δ => (f δ).bind fun p => match p.1 with
  | .dat (.bool b) => some (b, p.2)
  | _ => none
@[simp] def tAnd (f g : Et) : Et := fun δ => (f δ).bind fun p => if p.1 = true then g p.2 else some (false, p.2)
@[simp] def tOr (f g : Et) : Et := fun δ => (f δ).bind fun p => if p.1 = true then some (true, p.2) else g p.2
@[simp] def tNot (f : Et) : Et := fun δ => (f δ).map fun p => (!p.1, p.2)
/-- the same as values -/
def vAnd (f g : Ev) : Ev := fun δ => (f δ).bind fun p => match p.1 with
  | .dat (.bool true) => g p.2
  | .dat (.bool false) => some (.dat (.bool false), p.2)
  | _ => none
def vOr (f g : Ev) : Ev := fun δ => (f δ).bind fun p => match p.1 with
  | .dat (.bool true) => some (.dat (.bool true), p.2)
  | .dat (.bool false) => g p.2
  | _ => none
@[simp] def vNot (f : Ev) : Ev := fun δ => (f δ).bind fun p => match p.1 with
  | .dat (.bool b) => some (.dat (.bool (!b)), p.2)
  | _ => none
@[simp] def vIte (t : Et) (f g : Ev) : Ev := fun δ => (t δ).bind fun p => if p.1 = true then f p.2 else g p.2
def vChain (o1 o2 : D → D → Option Res) (f g h : Eo) : Ev := fun δ =>
  (f δ).bind fun p => (g p.2).bind fun q => (rd q.2 p.1).bind fun x => (rd q.2 q.1).bind fun y => (o1 x y).bind fun r => match r with
    | .dat (.bool true) => (h q.2).bind fun u => (rd u.2 q.1).bind fun y' => (rd u.2 u.1).bind fun z => (o2 y' z).map fun r => (r, u.2)
    | .dat (.bool false) => some (.dat (.bool false), q.2)
    | _ => none

/-! ### displays, calls -/
@[simp] def aNil : Ea := fun δ => some ([], δ)
@[simp] def aCons (f : Eo) (g : Ea) : Ea := fun δ => (f δ).bind fun p => (g p.2).map fun q => (p.1 :: q.1, q.2)
@[simp] def vals : List Opd → Option (List D)
  | [] => some []
  | .val d :: os => (vals os).map fun ds => d :: ds
  | .at _ :: _ => none
@[simp] def vTup (f : Ea) : Ev := fun δ => (f δ).bind fun p => (vals p.1).bind fun ds => if ds.length ≤ line then some (.dat (.tuple ds), p.2) else none
@[simp] def vLst (f : Ea) : Ev := fun δ => (f δ).bind fun p => (vals p.1).bind fun ds => if ds.length ≤ line then some (.new ds, p.2) else none
/-- a builtin on data -/
@[simp] def vBi (b : List D → Option Res) (f : Ea) : Ev := fun δ => (f δ).bind fun p => (rdAll p.2 p.1).bind fun ds => (b ds).map fun r => (r, p.2)
def freezeAll : List Opd → Env → Env
  | [], δ => δ
  | .val _ :: os, δ => freezeAll os δ
  | .at i :: os, δ => freezeAll os (freeze δ i)
@[simp] def anyAt : List Opd → Bool
  | [] => false
  | .val _ :: os => anyAt os
  | .at _ :: _ => true
/-- a call without a list by reference: owned lists are read in place where no list comes back -/
@[simp] def vCall (c : Fnc) (f : Ea) : Ev := fun δ => (f δ).bind fun p => (rdAll p.2 p.1).bind fun ds => (c none ds).bind fun r => match r with
  | (r, none) => if anyAt p.1 = false then some (r, p.2) else match r with
    | .dat d => if noList d = true then some (.dat d, p.2) else none
    | .new ds => if noListAll ds = true then some (.new ds, p.2) else none
  | _ => none
/-- a call with the list of the variable i by reference -/
@[simp] def ownAt (δ : Env) (i : Nat) : Bool := match δ[i]? with
  | some (.own _) => true
  | some (.prm _) => true
  | _ => false
@[simp] def vCallR (c : Fnc) (i : Nat) (f : Ea) : Ev := fun δ => (if ownAt δ i = true then f δ else none).bind fun p => (vals p.1).bind fun ds => match p.2[i]? with
  | some (.own xs) => (c (some xs) ds).bind fun r => match r.2 with
    | some ys => some (r.1, p.2.set i (.own ys))
    | none => none
  | some (.prm xs) => (c (some xs) ds).bind fun r => match r.2 with
    | some ys => some (r.1, p.2.set i (.prm ys))
    | none => none
  | _ => none
inductive Ty where
  | int | bool | str | list | tuple
  deriving DecidableEq
@[simp] def isTy : Ty → D → Option Bool
  | _, .dict _ => none
  | .int, .int _ => some true
  | .int, .bool _ => some true
  | .bool, .bool _ => some true
  | .str, .str _ => some true
  | .list, .list _ => some true
  | .tuple, .tuple _ => some true
  | _, _ => some false
@[simp] def isAny : List Ty → D → Option Bool
  | [], _ => some false
  | t :: ts, d => (isTy t d).bind fun b => if b = true then some true else isAny ts d
@[simp] def uIs (ts : List Ty) (d : D) : Option Res := (isAny ts d).map fun b => .dat (.bool b)

/-! ### built-in functions -/
@[simp] def biLen : List D → Option Res
  | [.list xs] => some (.dat (.int xs.length))
  | [.tuple xs] => some (.dat (.int xs.length))
  | [.dict [(.none, .tuple xs)]] => some (.dat (.int xs.length))
  | _ => none
@[simp] def biInt : List D → Option Res
  | [.int i] => some (.dat (.int i))
  | [.bool b] => some (.dat (.int (if b then 1 else 0)))
  | _ => none
@[simp] def biTuple : List D → Option Res
  | [.list xs] => some (.dat (.tuple xs))
  | [.tuple xs] => some (.dat (.tuple xs))
  | _ => none
@[simp] def biList : List D → Option Res
  | [.list xs] => some (.new xs)
  | [.tuple xs] => some (.new xs)
  | _ => none
@[simp] def biSum : List D → Option Res
  | [.list xs] => (intsOf xs).map fun is => .dat (.int is.sum)
  | _ => none
@[simp] def biAll : List D → Option Res
  | [.list xs] => (boolsOf xs).map fun bs => .dat (.bool (bs.all id))
  | _ => none
@[simp] def biAny : List D → Option Res
  | [.list xs] => (boolsOf xs).map fun bs => .dat (.bool (bs.any id))
  | _ => none
@[simp] def biAbs : List D → Option Res
  | [.int i] => some (.dat (.int (if i < 0 then -i else i)))
  | _ => none
@[simp] def biMax : List D → Option Res
  | [.int i, .int j] => some (.dat (.int (if j > i then j else i)))
  | _ => none
@[simp] def biMin : List D → Option Res
  | [.int i, .int j] => some (.dat (.int (if j < i then j else i)))
  | _ => none

/-! ### targets and what is walked -/
inductive Tg where
  | nm (i : Nat) | tup (is : List Nat)
@[simp] def Tg.slots : Tg → List Nat
  | .nm i => [i]
  | .tup is => is
@[simp] def setSlot (δ : Env) (i : Nat) (s : Slot) : Option Env := match δ[i]? with
  | some (.prm _) => none
  | some _ => some (δ.set i s)
  | none => none
@[simp] def setDs : Env → List Nat → List D → Option Env
  | δ, [], [] => some δ
  | δ, i :: is, d :: ds => (setSlot δ i (.dat d)).bind fun δ' => setDs δ' is ds
  | _, _, _ => none
@[simp] def Tg.put : Tg → D → Env → Option Env
  | .nm i, d, δ => setSlot δ i (.dat d)
  | .tup is, .tuple ds, δ => setDs δ is ds
  | .tup _, _, _ => none
/-- what is walked: the items, and the variable whose owned list is walked in place -/
abbrev Ei := Env → Option ((List D × Option Nat) × Env)
@[simp] def itemsOf : D → Option (List D)
  | .list xs => some xs
  | .tuple xs => some xs
  | _ => none
def own? : Opd → Option Nat
  | .val _ => none
  | .at i => some i
@[simp] def iE (f : Eo) : Ei := fun δ => (f δ).bind fun p => (rd p.2 p.1).bind fun d => (itemsOf d).map fun xs => ((xs, own? p.1), p.2)
def rangeD (lo : Int) (n : Nat) : List D := (List.range n).map fun k => .int (lo + (k : Nat))
def iRange1 (f : Eo) : Ei := fun δ => (f δ).bind fun p => match p.1 with
  | .val (.int j) => if -(2 ^ 62) ≤ j ∧ j < 2 ^ 62 then some ((rangeD 0 j.toNat, none), p.2) else none
  | _ => none
def iRange2 (f g : Eo) : Ei := fun δ => (f δ).bind fun p => (g p.2).bind fun q => match p.1, q.1 with
  | .val (.int i), .val (.int j) => if -(2 ^ 62) ≤ i ∧ i < 2 ^ 62 ∧ -(2 ^ 62) ≤ j ∧ j < 2 ^ 62 then some ((rangeD i (j - i).toNat, none), q.2) else none
  | _, _ => none
/-- range(a, b, -1) -/
def downD (hi : Int) (n : Nat) : List D := (List.range n).map fun k => .int (hi - (k : Nat))
def iDown (f g : Eo) : Ei := fun δ => (f δ).bind fun p => (g p.2).bind fun q => match p.1, q.1 with
  | .val (.int i), .val (.int j) => if -(2 ^ 60) ≤ i ∧ i < 2 ^ 60 ∧ -(2 ^ 60) ≤ j ∧ j < 2 ^ 60 then some ((downD i (i - j).toNat, none), q.2) else none
  | _, _ => none
def enumD : Nat → List D → List D
  | _, [] => []
  | k, d :: ds => .tuple [.int k, d] :: enumD (k + 1) ds
@[simp] def iEnum (f : Eo) : Ei := fun δ => (f δ).bind fun p => match p.1 with
  | .val (.list xs) => some ((enumD 0 xs, none), p.2)
  | .val (.tuple xs) => some ((enumD 0 xs, none), p.2)
  | _ => none
/-- zip, of two that are data -/
def zipD : List D → List D → List D
  | x :: xs, y :: ys => .tuple [x, y] :: zipD xs ys
  | _, _ => []
@[simp] def iZip (f g : Eo) : Ei := fun δ => (f δ).bind fun p => (g p.2).bind fun q => match p.1, q.1 with
  | .val (.list xs), .val (.list ys) => some ((zipD xs ys, none), q.2)
  | .val (.tuple xs), .val (.tuple ys) => some ((zipD xs ys, none), q.2)
  | _, _ => none
/-- reversed(range(n)), reversed(range(a, b)) -/
def iRevR1 (f : Eo) : Ei := fun δ => (f δ).bind fun p => match p.1 with
  | .val (.int j) => if -(2 ^ 60) ≤ j ∧ j < 2 ^ 60 then some ((downD ((j.toNat : Int) - 1) j.toNat, none), p.2) else none
  | _ => none
/-- an int that a range can have -/
def small (i : Int) : Bool := decide (-(2 ^ 62) ≤ i ∧ i < 2 ^ 62)
def small60 (i : Int) : Bool := decide (-(2 ^ 60) ≤ i ∧ i < 2 ^ 60)
theorem small_of {i : Int} (h : -1000000000 ≤ i ∧ i ≤ 1000000000) : small i = true := decide_eq_true ⟨by omega, by omega⟩
theorem small60_of {i : Int} (h : -1000000000 ≤ i ∧ i ≤ 1000000000) : small60 i = true := decide_eq_true ⟨by omega, by omega⟩
theorem iRange1_s (f : Eo) (δ : Env) : iRange1 f δ = (f δ).bind fun p => match p.1 with
    | .val (.int j) => if small j = true then some ((rangeD 0 j.toNat, none), p.2) else none
    | _ => none := by
  unfold iRange1 small
  congr 1
  funext p
  split <;> simp only [decide_eq_true_eq]
theorem iRange2_s (f g : Eo) (δ : Env) : iRange2 f g δ = (f δ).bind fun p => (g p.2).bind fun q => match p.1, q.1 with
    | .val (.int i), .val (.int j) => if small i = true ∧ small j = true then some ((rangeD i (j - i).toNat, none), q.2) else none
    | _, _ => none := by
  unfold iRange2 small
  congr 1
  funext p
  congr 1
  funext q
  split <;> simp only [decide_eq_true_eq, and_assoc]
theorem iDown_s (f g : Eo) (δ : Env) : iDown f g δ = (f δ).bind fun p => (g p.2).bind fun q => match p.1, q.1 with
    | .val (.int i), .val (.int j) => if small60 i = true ∧ small60 j = true then some ((downD i (i - j).toNat, none), q.2) else none
    | _, _ => none := by
  unfold iDown small60
  congr 1
  funext p
  congr 1
  funext q
  split <;> simp only [decide_eq_true_eq, and_assoc]
theorem iRange1_at {f : Eo} {δ δ1 : Env} {j : Int} (h1 : f δ = some (.val (.int j), δ1)) (hj : -1000000000 ≤ j ∧ j ≤ 1000000000) : iRange1 f δ = some ((rangeD 0 j.toNat, none), δ1) := by
  rw [iRange1_s, h1]
  simp only [Option.bind_some]
  rw [if_pos (small_of hj)]
theorem iRange2_at {f g : Eo} {δ δ1 δ2 : Env} {i j : Int} (h1 : f δ = some (.val (.int i), δ1)) (h2 : g δ1 = some (.val (.int j), δ2)) (hi : -1000000000 ≤ i ∧ i ≤ 1000000000) (hj : -1000000000 ≤ j ∧ j ≤ 1000000000) : iRange2 f g δ = some ((rangeD i (j - i).toNat, none), δ2) := by
  rw [iRange2_s, h1]
  simp only [Option.bind_some]
  rw [h2]
  simp only [Option.bind_some]
  rw [if_pos ⟨small_of hi, small_of hj⟩]
theorem iDown_at {f g : Eo} {δ δ1 δ2 : Env} {i j : Int} (h1 : f δ = some (.val (.int i), δ1)) (h2 : g δ1 = some (.val (.int j), δ2)) (hi : -1000000000 ≤ i ∧ i ≤ 1000000000) (hj : -1000000000 ≤ j ∧ j ≤ 1000000000) : iDown f g δ = some ((downD i (i - j).toNat, none), δ2) := by
  rw [iDown_s, h1]
  simp only [Option.bind_some]
  rw [h2]
  simp only [Option.bind_some]
  rw [if_pos ⟨small60_of hi, small60_of hj⟩]
/-- is the owned list still this one (as an owned list, or frozen)? -/
def still (δ : Env) (xs : List D) : Option Nat → Bool
  | none => true
  | some i => match δ[i]? with
    | some s => match slotD s with
      | some (.list ys) => sameAll xs ys
      | _ => false
    | none => false

/-! ### comprehensions -/
@[simp] def unAll : List Nat → Env → Option Env
  | [], δ => some δ
  | i :: is, δ => match δ[i]? with
    | some .un => unAll is δ
    | some (.dat _) => unAll is (δ.set i .un)
    | _ => none
@[simp] def backAll (δ0 : Env) : List Nat → Env → Env
  | [], δ => δ
  | i :: is, δ => backAll δ0 is (match δ0[i]? with
    | some s => δ.set i s
    | none => δ)
/-- the turns of a comprehension: each begins with its own names unset -/
def lcGo (vs : List Nat) (g : Tg) (t : Et) (e : Ev) (src : List D) (ow : Option Nat) : List D → Env → Option (List D × Env)
  | [], δ => if still δ src ow = true then some ([], δ) else none
  | x :: xs, δ => if still δ src ow = true then (g.put x δ).bind fun δ1 => (t δ1).bind fun p => if p.1 = true then
      (e p.2).bind fun r => (unAll vs r.2).bind fun δ2 => (lcGo vs g t e src ow xs δ2).map fun q => (r.1.toD :: q.1, q.2)
    else (unAll vs p.2).bind fun δ2 => lcGo vs g t e src ow xs δ2 else none
@[simp] def tYes : Et := fun δ => some (true, δ)
@[simp] def vLc (vs : List Nat) (it : Ei) (g : Tg) (t : Et) (e : Ev) : Ev := fun δ => (it δ).bind fun p => (unAll vs p.2).bind fun δ1 =>
  if p.1.1.length ≤ line then (lcGo vs g t e p.1.1 p.1.2 p.1.1 δ1).map fun q => (.new q.1, backAll p.2 vs q.2) else none

/-! ### statements -/
@[simp] def slotOf : Res → Slot
  | .dat d => .dat d
  | .new ds => .own ds
@[simp] def sPass : Es := fun δ => some (.nx, δ)
@[simp] def sBreak : Es := fun δ => some (.bk, δ)
@[simp] def sCont : Es := fun δ => some (.ct, δ)
@[simp] def sNever : Es := fun _ => none
@[simp] def sSeq (f g : Es) : Es := fun δ => (f δ).bind fun p => match p.1 with
  | .nx => g p.2
  | o => some (o, p.2)
@[simp] def sSet (i : Nat) (f : Ev) : Es := fun δ => (f δ).bind fun p => (setSlot p.2 i (slotOf p.1)).map fun δ' => (.nx, δ')
/-- a, b = e, e a tuple -/
@[simp] def sUnp (is : List Nat) (f : Ev) : Es := fun δ => (f δ).bind fun p => match p.1 with
  | .dat (.tuple ds) => (setDs p.2 is ds).map fun δ' => (.nx, δ')
  | _ => none
/-- several values, fresh lists kept owned; then several names at once -/
@[simp] def pEvs : List Ev → Env → Option (List Res × Env)
  | [], δ => some ([], δ)
  | f :: fs, δ => (f δ).bind fun p => (pEvs fs p.2).map fun q => (p.1 :: q.1, q.2)
@[simp] def setRs : Env → List Nat → List Res → Option Env
  | δ, [], [] => some δ
  | δ, i :: is, r :: rs => (setSlot δ i (slotOf r)).bind fun δ' => setRs δ' is rs
  | _, _, _ => none
@[simp] def sPar (is : List Nat) (fs : List Ev) : Es := fun δ => (pEvs fs δ).bind fun p => (setRs p.2 is p.1).map fun δ' => (.nx, δ')
@[simp] def sEx (f : Ev) : Es := fun δ => (f δ).map fun p => (.nx, p.2)
@[simp] def sRet (f : Ev) : Es := fun δ => (f δ).map fun p => (.rt p.1, p.2)
@[simp] def sRetN : Es := fun δ => some (.rt (.dat .none), δ)
@[simp] def sIf (t : Et) (f g : Es) : Es := fun δ => (t δ).bind fun p => if p.1 = true then f p.2 else g p.2
/-- the owned list of a variable changes -/
@[simp] def withOwn (δ : Env) (i : Nat) (k : List D → Option (List D)) : Option Env := match δ[i]? with
  | some (.own xs) => (k xs).map fun ys => δ.set i (.own ys)
  | some (.prm xs) => (k xs).map fun ys => δ.set i (.prm ys)
  | _ => none
@[simp] def sApp (i : Nat) (f : Ev) : Es := fun δ => (if ownAt δ i = true then f δ else none).bind fun p => (withOwn p.2 i fun xs => if xs.length < line then some (xs ++ [p.1.toD]) else none).map fun δ' => (.nx, δ')
@[simp] def sPop (i : Nat) : Es := fun δ => (withOwn δ i fun xs => if xs.isEmpty = true then none else some xs.dropLast).map fun δ' => (.nx, δ')
/-- x[i] = e: e first, then the place -/
@[simp] def sSetIx (i : Nat) (ix : Eo) (f : Eo) : Es := fun δ => (f δ).bind fun p => (if ownAt p.2 i = true then ix p.2 else none).bind fun q => match p.1, q.1 with
  | .val d, .val (.int k) => (withOwn q.2 i fun xs => (ixN xs.length k).map fun j => xs.set j d).map fun δ' => (.nx, δ')
  | _, _ => none
/-- x op= e, of ints -/
@[simp] def sAug (i : Nat) (op : Int → Int → Int) (f : Eo) : Es := fun δ => match δ[i]? with
  | some (.dat (.int a)) => (f δ).bind fun p => match p.1 with
    | .val (.int b) => (setSlot p.2 i (.dat (.int (op a b)))).map fun δ' => (.nx, δ')
    | _ => none
  | _ => none
/-- the turns of a for -/
def forGo (g : Tg) (b : Es) : List D → Env → Option (Out × Env)
  | [], δ => some (.nx, δ)
  | x :: xs, δ => (g.put x δ).bind fun δ1 => (b δ1).bind fun p => match p.1 with
    | .nx => forGo g b xs p.2
    | .ct => forGo g b xs p.2
    | .bk => some (.nx, p.2)
    | .rt r => some (.rt r, p.2)
@[simp] def sFor (it : Ei) (g : Tg) (b : Es) : Es := fun δ => (it δ).bind fun p => if p.1.2 = none then forGo g b p.1.1 p.2 else none
/-- the turns of a while, at most so many -/
def whileGo (t : Et) (b : Es) : Nat → Env → Option (Out × Env)
  | 0, _ => none
  | n + 1, δ => (t δ).bind fun p => if p.1 = true then (b p.2).bind fun q => match q.1 with
      | .nx => whileGo t b n q.2
      | .ct => whileGo t b n q.2
      | .bk => some (.nx, q.2)
      | .rt r => some (.rt r, q.2)
    else some (.nx, p.2)
def turns : Nat := 1000000
@[simp] def sWhile (t : Et) (b : Es) : Es := fun δ => whileGo t b turns δ

/-! ### functions -/
/-- the parameters (the first by reference: byRef), the number of names, the body -/
structure Fn where
  byRef : Bool
  nps : Nat
  names : Nat
  body : Es
@[simp] def Fn.run (F : Fn) : Fnc := fun r ds =>
  let δ0 : Option Env := match F.byRef, r with
    | true, some xs => if ds.length + 1 = F.nps then some (.prm xs :: (ds.map .dat ++ List.replicate (F.names - F.nps) .un)) else none
    | false, none => if ds.length = F.nps then some (ds.map .dat ++ List.replicate (F.names - F.nps) .un) else none
    | _, _ => none
  δ0.bind fun δ0 => (F.body δ0).bind fun p =>
    let r : Option Res := match p.1 with
      | .nx => some (.dat .none)
      | .rt r => some r
      | _ => none
    r.bind fun r => match F.byRef, (p.2[0]? : Option Slot) with
      | true, some (.prm ys) => some (r, some ys)
      | false, _ => some (r, none)
      | _, _ => none
/-! ### the same, for simp -/
@[simp] theorem still_none (δ : Env) (xs : List D) : still δ xs none = true := rfl
@[simp] def asB : Res → Option Bool
  | .dat (.bool b) => some b
  | _ => none
@[simp] theorem vAnd_s (f g : Ev) (δ : Env) : vAnd f g δ = (f δ).bind fun p => (asB p.1).bind fun b => if b = true then g p.2 else some (.dat (.bool false), p.2) := by
  unfold vAnd
  cases f δ with
  | none => rfl
  | some p =>
    obtain ⟨r, δ'⟩ := p
    cases r with
    | new _ => rfl
    | dat d => cases d with
      | bool b => cases b <;> rfl
      | _ => rfl
@[simp] theorem vOr_s (f g : Ev) (δ : Env) : vOr f g δ = (f δ).bind fun p => (asB p.1).bind fun b => if b = true then some (.dat (.bool true), p.2) else g p.2 := by
  unfold vOr
  cases f δ with
  | none => rfl
  | some p =>
    obtain ⟨r, δ'⟩ := p
    cases r with
    | new _ => rfl
    | dat d => cases d with
      | bool b => cases b <;> rfl
      | _ => rfl
@[simp] theorem vChain_s (o1 o2 : D → D → Option Res) (f g h : Eo) (δ : Env) : vChain o1 o2 f g h δ =
    (f δ).bind fun p => (g p.2).bind fun q => (rd q.2 p.1).bind fun x => (rd q.2 q.1).bind fun y => (o1 x y).bind fun r => (asB r).bind fun b =>
      if b = true then (h q.2).bind fun u => (rd u.2 q.1).bind fun y' => (rd u.2 u.1).bind fun z => (o2 y' z).map fun r => (r, u.2) else some (.dat (.bool false), q.2) := by
  unfold vChain
  congr 1
  funext p
  congr 1
  funext q
  congr 1
  funext x
  congr 1
  funext y
  congr 1
  funext r
  cases r with
  | new _ => rfl
  | dat d => cases d with
    | bool b => cases b <;> rfl
    | _ => rfl
end IP
end
section
set_option Elab.async false
set_option linter.all false
set_option maxRecDepth 100000
set_option maxHeartbeats 2000000
/-! Snd: what a piece of the text does to the environment of data is what IP says. -/
namespace IP
open PySem L2

def Sub (A B : Hp) : Prop := ∀ a o, A a = some o → B a = some o
theorem Sub.refl (H : Hp) : Sub H H := fun _ _ h => h
theorem Sub.trans {A B C : Hp} (h : Sub A B) (g : Sub B C) : Sub A C := fun a o e => g a o (h a o e)
theorem Sub.new {H : Hp} {p : Addr} {o : HO} (h : H p = none) : Sub H (upd H p o) := fun a u e => by
  rw [upd_ne (ne_of_none e h)]
  exact e
theorem Sub.none {A B : Hp} (h : Sub A B) {p : Addr} (e : B p = Option.none) : A p = Option.none := by
  cases q : A p with
  | none => rfl
  | some o =>
    rw [h p o q] at e
    cases e

theorem Rd.sub {A B : Hp} (h : Sub A B) {a : Addr} {u : HO} (r : Rd A a u) : Rd B a u := by
  rcases r with r | ⟨o, r⟩
  · exact .inl (h _ _ r)
  · exact .inr ⟨o, h _ _ r⟩
theorem SqL.sub {A B : Hp} (h : Sub A B) {K : PySem.W.Frag} {a : Addr} {xs : List V} (r : SqL K A a xs) : SqL K B a xs := by
  rcases r with r | r
  · exact .inl (Rd.sub h r)
  · exact .inr r
theorem SqT.sub {A B : Hp} (h : Sub A B) {K : PySem.W.Frag} {a : Addr} {xs : List V} (r : SqT K A a xs) : SqT K B a xs := by
  rcases r with r | r
  · exact .inl (Rd.sub h r)
  · exact .inr r

/-! ### a value and its data -/
mutual
inductive Rel (K : PySem.W.Frag) (H : Hp) : V → D → Prop
  | non : Rel K H .non .none
  | bl (b : Bool) : Rel K H (.bl b) (.bool b)
  | int (i : Int) : Rel K H (.int i) (.int i)
  | str (x : Str) : Rel K H (.str x) (.str x)
  | lst {a : Addr} {xs : List V} {ds : List D} : H a = some (.lst xs) → RelAll K H xs ds → Rel K H (.ref a) (.list ds)
  | tup {a : Addr} {xs : List V} {ds : List D} : SqT K H a xs → RelAll K H xs ds → Rel K H (.ref a) (.tuple ds)
  | scr {a : Addr} {ns : List Int} : SqL K H a (ns.map V.int) → Rel K H (.ref a) (scr ns)
inductive RelAll (K : PySem.W.Frag) (H : Hp) : List V → List D → Prop
  | nil : RelAll K H [] []
  | cons {v : V} {vs : List V} {d : D} {ds : List D} : Rel K H v d → RelAll K H vs ds → RelAll K H (v :: vs) (d :: ds)
end
section
variable {K : PySem.W.Frag} {A B : Hp}
mutual
theorem Rel.sub (h : Sub A B) : ∀ {v : V} {d : D}, Rel K A v d → Rel K B v d
  | _, _, .non => .non
  | _, _, .bl b => .bl b
  | _, _, .int i => .int i
  | _, _, .str x => .str x
  | _, _, .lst e r => .lst (h _ _ e) (RelAll.sub h r)
  | _, _, .tup e r => .tup (SqT.sub h e) (RelAll.sub h r)
  | _, _, .scr e => .scr (SqL.sub h e)
theorem RelAll.sub (h : Sub A B) : ∀ {vs : List V} {ds : List D}, RelAll K A vs ds → RelAll K B vs ds
  | _, _, .nil => .nil
  | _, _, .cons r t => .cons (Rel.sub h r) (RelAll.sub h t)
end
theorem RelAll.length : ∀ {vs : List V} {ds : List D}, RelAll K A vs ds → vs.length = ds.length
  | _, _, .nil => rfl
  | _, _, .cons _ t => by rw [List.length_cons, List.length_cons, RelAll.length t]
theorem RelAll.append : ∀ {vs ws : List V} {ds es : List D}, RelAll K A vs ds → RelAll K A ws es → RelAll K A (vs ++ ws) (ds ++ es)
  | _, _, _, _, .nil, q => q
  | _, _, _, _, .cons r t, q => .cons r (RelAll.append t q)
theorem RelAll.get : ∀ {vs : List V} {ds : List D} {i : Nat} {d : D}, RelAll K A vs ds → ds[i]? = some d → ∃ v, vs[i]? = some v ∧ Rel K A v d
  | _, _, _, _, .nil, e => by simp at e
  | _, _, 0, _, .cons r t, e => by
    simp at e
    subst e
    exact ⟨_, rfl, r⟩
  | _, _, i + 1, _, .cons r t, e => by
    obtain ⟨v, h1, h2⟩ := RelAll.get (i := i) t (by simpa using e)
    exact ⟨v, by simpa using h1, h2⟩
theorem RelAll.getV : ∀ {vs : List V} {ds : List D} {i : Nat} {v : V}, RelAll K A vs ds → vs[i]? = some v → ∃ d, ds[i]? = some d ∧ Rel K A v d
  | _, _, _, _, .nil, e => by simp at e
  | _, _, 0, _, .cons r t, e => by
    simp at e
    subst e
    exact ⟨_, rfl, r⟩
  | _, _, i + 1, _, .cons r t, e => by
    obtain ⟨v, h1, h2⟩ := RelAll.getV (i := i) t (by simpa using e)
    exact ⟨v, by simpa using h1, h2⟩
theorem RelAll.take : ∀ {vs : List V} {ds : List D} (n : Nat), RelAll K A vs ds → RelAll K A (vs.take n) (ds.take n)
  | _, _, 0, _ => .nil
  | _, _, _ + 1, .nil => .nil
  | _, _, n + 1, .cons r t => .cons r (RelAll.take n t)
theorem RelAll.drop : ∀ {vs : List V} {ds : List D} (n : Nat), RelAll K A vs ds → RelAll K A (vs.drop n) (ds.drop n)
  | _, _, 0, r => r
  | _, _, _ + 1, .nil => .nil
  | _, _, n + 1, .cons _ t => RelAll.drop n t
theorem RelAll.set {v : V} {d : D} (q : Rel K A v d) : ∀ {vs : List V} {ds : List D} (n : Nat), RelAll K A vs ds → RelAll K A (vs.set n v) (ds.set n d)
  | _, _, _, .nil => .nil
  | _, _, 0, .cons r t => .cons q t
  | _, _, n + 1, .cons r t => .cons r (RelAll.set q n t)
theorem RelAll.dropLast : ∀ {vs : List V} {ds : List D}, RelAll K A vs ds → RelAll K A vs.dropLast ds.dropLast := fun {vs ds} r => by
  rw [List.dropLast_eq_take, List.dropLast_eq_take, r.length]
  exact r.take _
theorem RelAll.rep : ∀ {vs : List V} {ds : List D} (n : Nat), RelAll K A vs ds → RelAll K A (List.replicate n vs).flatten (List.replicate n ds).flatten
  | _, _, 0, _ => .nil
  | _, _, n + 1, r => by
    rw [List.replicate_succ, List.replicate_succ, List.flatten_cons, List.flatten_cons]
    exact r.append (RelAll.rep n r)
theorem RelAll.reverse : ∀ {vs : List V} {ds : List D}, RelAll K A vs ds → RelAll K A vs.reverse ds.reverse
  | _, _, .nil => .nil
  | _, _, .cons r t => by
    rw [List.reverse_cons, List.reverse_cons]
    exact (RelAll.reverse t).append (.cons r .nil)
theorem RelAll.ints : ∀ {vs : List V} {ds : List D} {is : List Int}, RelAll K A vs ds → intsOf ds = some is → vs = is.map V.int
  | _, _, is, .nil, e => by
    simp [intsOf] at e
    subst e
    rfl
  | _, _, is, .cons (d := d) (ds := ds) r t, e => by
    cases r with
    | int i =>
      simp only [intsOf, Option.map_eq_some_iff] at e
      obtain ⟨js, h1, rfl⟩ := e
      rw [RelAll.ints t h1]
      rfl
    | _ => simp [intsOf, IP.scr] at e
theorem RelAll.bools : ∀ {vs : List V} {ds : List D} {is : List Bool}, RelAll K A vs ds → boolsOf ds = some is → vs = is.map V.bl
  | _, _, is, .nil, e => by
    simp [boolsOf] at e
    subst e
    rfl
  | _, _, is, .cons (d := d) (ds := ds) r t, e => by
    cases r with
    | bl i =>
      simp only [boolsOf, Option.map_eq_some_iff] at e
      obtain ⟨js, h1, rfl⟩ := e
      rw [RelAll.bools t h1]
      rfl
    | _ => simp [boolsOf, IP.scr] at e
theorem relAll_ints {is : List Int} : RelAll K A (is.map V.int) (is.map PyData.int) := by
  induction is with
  | nil => exact .nil
  | cons i is ih => exact .cons (.int i) ih
/-- a value without lists does not read lists -/
theorem Rel.dp : ∀ {v : V} {d : D}, Rel K A v d → SeqAt.shaped d = true → Dp K A v d := by
  have main : (∀ (v : V) (d : D), Rel K A v d → PyData.canLay0 d = true → Dp K A v d) := by
    intro v d r
    refine Rel.rec (motive_1 := fun v d _ => PyData.canLay0 d = true → Dp K A v d) (motive_2 := fun vs ds _ => PyData.canLayAll0 ds = true → DpAll K A vs ds) ?_ ?_ ?_ ?_ ?_ ?_ ?_ ?_ ?_ r
    · intro _; exact .non
    · intro b _; exact .bl b
    · intro i _; exact .int i
    · intro x _; exact .str x
    · intro a xs ds e r ih c
      exact .lst (SqL.of e) (ih (by simpa [PyData.canLay0] using c))
    · intro a xs ds e r ih c
      exact .tup e (ih (by simpa [PyData.canLay0] using c))
    · intro a ns e c
      simp [IP.scr, PyData.canLay0] at c
    · intro _; exact .nil
    · intro v vs d ds r1 r2 h1 h2 c
      have c' : PyData.canLay0 d = true ∧ PyData.canLayAll0 ds = true := by simpa [PyData.canLayAll0] using c
      exact .cons (h1 c'.1) (h2 c'.2)
  intro v d r h
  exact main v d r (SeqAt.canLay_of_shaped h)
end

/-! ### the state: the frozen part H0 of the heap, the owned lists -/
/-- the entry of a def: the written part, the heap, its frozen part, the lists by reference (slot, address) -/
structure Gx where
  K : PySem.W.Frag
  H : Hp
  H0 : Hp
  pr : List (Nat × Addr)
def isOwn : Slot → Bool
  | .own _ => true
  | .prm _ => true
  | _ => false
def Holds (δ : Env) (σ : L2.St) (i : Nat) (p : Addr) : Prop := (∃ s, δ[i]? = some s ∧ isOwn s = true) ∧ σ[i]? = some (some (V.ref p))
def SlotOk (G : Gx) (H0 H : Hp) (σ : L2.St) (i : Nat) : Slot → Prop
  | .un => True
  | .dat d => ∃ v, σ[i]? = some (some v) ∧ Rel G.K H0 v d
  | .own ds => ∃ p vs, σ[i]? = some (some (.ref p)) ∧ H p = some (.lst vs) ∧ RelAll G.K H0 vs ds ∧ H0 p = none ∧ G.H p = none
  | .prm ds => ∃ p vs, σ[i]? = some (some (.ref p)) ∧ (i, p) ∈ G.pr ∧ H p = some (.lst vs) ∧ RelAll G.K H0 vs ds ∧ H0 p = none
structure Rl (G : Gx) (H0 H : Hp) (δ : Env) (σ : L2.St) : Prop where
  len : σ.length = δ.length
  sub : Sub H0 H
  up : Sub G.H0 H0
  keep : ∀ a o, G.H a = some o → (∀ p ∈ G.pr, p.2 ≠ a) → H a = some o
  fro : ∀ a o, H0 a = some o → (∃ u, G.H0 a = some u) ∨ G.H a = none
  slot : ∀ i s, δ[i]? = some s → SlotOk G H0 H σ i s
  inj : ∀ i j p, Holds δ σ i p → Holds δ σ j p → i = j
  prs : ∀ p ∈ G.pr, ∃ ds, δ[p.1]? = some (.prm ds) ∧ σ[p.1]? = some (some (.ref p.2))
def ResOk (G : Gx) (H0 H : Hp) (δ : Env) (σ : L2.St) : Res → V → Prop
  | .dat d, v => Rel G.K H0 v d
  | .new ds, v => ∃ p vs, v = .ref p ∧ H p = some (.lst vs) ∧ RelAll G.K H0 vs ds ∧ H0 p = none ∧ G.H p = none ∧ ∀ i, ¬ Holds δ σ i p
def OpdOk (G : Gx) (H0 : Hp) (σ : L2.St) : Opd → V → Prop
  | .val d, v => Rel G.K H0 v d
  | .at i, v => σ[i]? = some (some v)
/-- the object itself in H, what it holds in H0 -/
def RelT (K : PySem.W.Frag) (H0 H : Hp) (v : V) (d : D) : Prop := Rel K H0 v d ∨ ∃ a xs ds, d = .list ds ∧ v = .ref a ∧ H a = some (.lst xs) ∧ RelAll K H0 xs ds
section
variable {G : Gx} {H0 H H0' H' : Hp} {δ δ' : Env} {σ : L2.St} {p : Addr} {o : HO} {i j : Nat} {v : V} {d : D} {ds : List D} {vs : List V}
theorem Rl.fresh (R : Rl G H0 H δ σ) (hp : H p = none) : H0 p = none ∧ G.H p = none ∧ ∀ i, ¬ Holds δ σ i p := by
  refine ⟨R.sub.none hp, ?_, fun i h => ?_⟩
  · cases q : G.H p with
    | none => rfl
    | some o =>
      by_cases hh : ∃ z ∈ G.pr, z.2 = p
      · obtain ⟨z, hz, e⟩ := hh
        obtain ⟨ds, e1, e2⟩ := R.prs z hz
        obtain ⟨p', vs, e3, _, e4, _, _⟩ := R.slot _ _ e1
        rw [e2] at e3
        cases e3
        rw [e, hp] at e4
        cases e4
      · have := R.keep p o q (fun z hz e => hh ⟨z, hz, e⟩)
        rw [hp] at this
        cases this
  · obtain ⟨⟨s, e1, e2⟩, e3⟩ := h
    have := R.slot i s e1
    cases s with
    | own ds =>
      obtain ⟨p', vs, e4, e5, _⟩ := this
      rw [e3] at e4
      cases e4
      rw [hp] at e5
      cases e5
    | prm ds =>
      obtain ⟨p', vs, e4, _, e5, _⟩ := this
      rw [e3] at e4
      cases e4
      rw [hp] at e5
      cases e5
    | _ => cases e2
theorem SlotOk.mono {s : Slot} (h : SlotOk G H0 H σ i s) (h0 : Sub H0 H0') (hH : ∀ a vs, H a = some (.lst vs) → isOwn s = true → σ[i]? = some (some (.ref a)) → H' a = some (.lst vs)) (hn : ∀ a, isOwn s = true → σ[i]? = some (some (.ref a)) → H0 a = none → H0' a = none) : SlotOk G H0' H' σ i s := by
  cases s with
  | un => trivial
  | dat d =>
    obtain ⟨v, e, r⟩ := h
    exact ⟨v, e, r.sub h0⟩
  | own ds =>
    obtain ⟨p, vs, e1, e2, e3, e4, e5⟩ := h
    exact ⟨p, vs, e1, hH p vs e2 rfl e1, e3.sub h0, hn p rfl e1 e4, e5⟩
  | prm ds =>
    obtain ⟨p, vs, e1, e0, e2, e3, e4⟩ := h
    exact ⟨p, vs, e1, e0, hH p vs e2 rfl e1, e3.sub h0, hn p rfl e1 e4⟩
/-- a new object that nobody names yet -/
theorem Rl.laid (R : Rl G H0 H δ σ) (hp : H p = none) : Rl G H0 (upd H p o) δ σ := by
  refine ⟨R.len, R.sub.trans (Sub.new hp), R.up, fun a u e h => Sub.new hp a u (R.keep a u e h), R.fro, fun i s e => ?_, R.inj, R.prs⟩
  exact (R.slot i s e).mono (Sub.refl _) (fun a vs e _ _ => Sub.new hp a _ e) (fun _ _ _ h => h)
/-- an object is frozen -/
theorem Rl.froze (R : Rl G H0 H δ σ) (hp : H p = some o) (h0 : H0 p = none) (hG : G.H p = none) (hh : ∀ i, ¬ Holds δ σ i p) : Rl G (upd H0 p o) H δ σ := by
  refine ⟨R.len, fun a u e => ?_, R.up.trans (Sub.new h0), R.keep, fun a u e => ?_, fun i s e => ?_, R.inj, R.prs⟩
  · by_cases ha : a = p
    · subst ha
      rw [upd_same] at e
      cases e
      exact hp
    · rw [upd_ne ha] at e
      exact R.sub a u e
  · by_cases ha : a = p
    · subst ha
      exact .inr hG
    · rw [upd_ne ha] at e
      exact R.fro a u e
  · refine (R.slot i s e).mono (Sub.new h0) (fun a vs e _ _ => e) (fun a hs hi hn => ?_)
    by_cases ha : a = p
    · subst ha
      exact absurd ⟨⟨s, e, hs⟩, hi⟩ (hh i)
    · rw [upd_ne ha]
      exact hn
/-- a new object, at once frozen -/
theorem Rl.laid0 (R : Rl G H0 H δ σ) (hp : H p = none) : Rl G (upd H0 p o) (upd H p o) δ σ ∧ Sub H0 (upd H0 p o) :=
  have f := R.fresh hp
  ⟨(R.laid (o := o) hp).froze upd_same f.1 f.2.1 f.2.2, Sub.new f.1⟩
/-- a result becomes data -/
theorem Rl.toD (R : Rl G H0 H δ σ) : ∀ {r : Res} {v : V}, ResOk G H0 H δ σ r v → ∃ H0', Rl G H0' H δ σ ∧ Sub H0 H0' ∧ Rel G.K H0' v r.toD
  | .dat d, v, h => ⟨H0, R, Sub.refl _, h⟩
  | .new ds, v, h => by
    obtain ⟨p, vs, rfl, e1, e2, e3, e4, e5⟩ := h
    exact ⟨_, R.froze e1 e3 e4 e5, Sub.new e3, .lst upd_same (e2.sub (Sub.new e3))⟩
theorem Rl.slotAt (R : Rl G H0 H δ σ) {s : Slot} (e : δ[i]? = some s) : SlotOk G H0 H σ i s := R.slot i s e
/-- an owned list is changed -/
theorem Rl.put (R : Rl G H0 H δ σ) {s s' : Slot} (e : δ[i]? = some s) (hs : isOwn s = true) (hi : σ[i]? = some (some (.ref p)))
    (hv : RelAll G.K H0 vs ds) (h' : (s' = .own ds ∧ ∃ xs, s = .own xs) ∨ (s' = .prm ds ∧ ∃ xs, s = .prm xs)) : Rl G H0 (upd H p (.lst vs)) (δ.set i s') σ := by
  have hlt : i < δ.length := (List.getElem?_eq_some_iff.mp e).1
  have own' : isOwn s' = true := by rcases h' with ⟨h, _⟩ | ⟨h, _⟩ <;> rw [h] <;> rfl
  have n0 : H0 p = none := by
    have := R.slot i s e
    rcases h' with ⟨_, xs, rfl⟩ | ⟨_, xs, rfl⟩
    · obtain ⟨q, _, e1, _, _, e2, _⟩ := this
      rw [hi] at e1
      cases e1
      exact e2
    · obtain ⟨q, _, e1, _, _, _, e2⟩ := this
      rw [hi] at e1
      cases e1
      exact e2
  have hold : ∀ j q, Holds (δ.set i s') σ j q → Holds δ σ j q := fun j q ⟨⟨u, u1, u2⟩, u3⟩ => by
    by_cases hj : i = j
    · subst hj
      exact ⟨⟨s, e, hs⟩, u3⟩
    · rw [List.getElem?_set_ne hj] at u1
      exact ⟨⟨u, u1, u2⟩, u3⟩
  refine ⟨by rw [List.length_set]; exact R.len, fun a u h => ?_, R.up, fun a u h hh => ?_, R.fro, fun j u h => ?_, fun a b q h1 h2 => R.inj a b q (hold _ _ h1) (hold _ _ h2), fun z hz => ?_⟩
  · rw [upd_ne (ne_of_none h n0)]
    exact R.sub a u h
  · have ha : a ≠ p := fun z => by
      subst z
      have := R.slot i s e
      rcases h' with ⟨_, xs, rfl⟩ | ⟨_, xs, rfl⟩
      · obtain ⟨q, _, e1, _, _, _, e2⟩ := this
        rw [hi] at e1
        cases e1
        rw [h] at e2
        cases e2
      · obtain ⟨q, _, e1, e2, _⟩ := this
        rw [hi] at e1
        cases e1
        exact hh _ e2 rfl
    rw [upd_ne ha]
    exact R.keep a u h hh
  · by_cases hj : i = j
    · subst hj
      rw [List.getElem?_set_self hlt] at h
      cases h
      have := R.slot i s e
      rcases h' with ⟨rfl, xs, rfl⟩ | ⟨rfl, xs, rfl⟩
      · obtain ⟨q, _, e1, _, _, e2, e3⟩ := this
        rw [hi] at e1
        cases e1
        exact ⟨p, vs, hi, upd_same, hv, e2, e3⟩
      · obtain ⟨q, _, e1, e0, _, _, e2⟩ := this
        rw [hi] at e1
        cases e1
        exact ⟨p, vs, hi, e0, upd_same, hv, e2⟩
    · rw [List.getElem?_set_ne hj] at h
      have sj := R.slot j u h
      have ne : ∀ q, isOwn u = true → σ[j]? = some (some (.ref q)) → q ≠ p := fun q h1 h2 z => by
        subst z
        exact hj (R.inj i j q ⟨⟨s, e, hs⟩, hi⟩ ⟨⟨u, h, h1⟩, h2⟩)
      cases u with
      | un => trivial
      | dat d => exact sj
      | own xs =>
        obtain ⟨q, ws, e1, e2, e3, e4, e5⟩ := sj
        exact ⟨q, ws, e1, by rw [upd_ne (ne q rfl e1)]; exact e2, e3, e4, e5⟩
      | prm xs =>
        obtain ⟨q, ws, e1, e0, e2, e3, e4⟩ := sj
        exact ⟨q, ws, e1, e0, by rw [upd_ne (ne q rfl e1)]; exact e2, e3, e4⟩
  · obtain ⟨xs, e1, e2⟩ := R.prs z hz
    by_cases hj : i = z.1
    · subst hj
      rw [e1] at e
      cases e
      rcases h' with ⟨_, xs, h⟩ | ⟨rfl, _⟩
      · cases h
      · exact ⟨ds, List.getElem?_set_self hlt, e2⟩
    · exact ⟨xs, by rw [List.getElem?_set_ne hj]; exact e1, e2⟩
/-- an owned list is frozen -/
theorem Rl.freeze (R : Rl G H0 H δ σ) (i : Nat) : ∃ H0', Rl G H0' H (freeze δ i) σ ∧ Sub H0 H0' := by
  cases e : δ[i]? with
  | none =>
    refine ⟨H0, ?_, Sub.refl _⟩
    unfold IP.freeze
    rw [e]
    exact R
  | some s =>
    cases s with
    | own xs =>
      obtain ⟨p, ws, e1, e2, e3, e4, e5⟩ := R.slot i _ e
      have hlt : i < δ.length := (List.getElem?_eq_some_iff.mp e).1
      have ef : IP.freeze δ i = δ.set i (.dat (.list xs)) := by
        unfold IP.freeze
        rw [e]
      refine ⟨upd H0 p (.lst ws), ?_, Sub.new e4⟩
      rw [ef]
      have hold : ∀ j q, Holds (δ.set i (.dat (.list xs))) σ j q → Holds δ σ j q ∧ j ≠ i := fun j q ⟨⟨u, u1, u2⟩, u3⟩ => by
        by_cases hj : i = j
        · subst hj
          rw [List.getElem?_set_self hlt] at u1
          cases u1
          cases u2
        · rw [List.getElem?_set_ne hj] at u1
          exact ⟨⟨⟨u, u1, u2⟩, u3⟩, Ne.symm hj⟩
      refine ⟨by rw [List.length_set]; exact R.len, fun a u h => ?_, R.up.trans (Sub.new e4), R.keep, fun a u h => ?_, fun j u h => ?_, fun a b q h1 h2 => R.inj a b q (hold _ _ h1).1 (hold _ _ h2).1, fun z hz => ?_⟩
      · by_cases ha : a = p
        · subst ha
          rw [upd_same] at h
          cases h
          exact e2
        · rw [upd_ne ha] at h
          exact R.sub a u h
      · by_cases ha : a = p
        · subst ha
          exact .inr e5
        · rw [upd_ne ha] at h
          exact R.fro a u h
      · by_cases hj : i = j
        · subst hj
          rw [List.getElem?_set_self hlt] at h
          cases h
          exact ⟨_, e1, .lst upd_same (e3.sub (Sub.new e4))⟩
        · rw [List.getElem?_set_ne hj] at h
          refine (R.slot j u h).mono (Sub.new e4) (fun _ _ q _ _ => q) (fun a hs hi hn => ?_)
          have ha : a ≠ p := fun z => by
            subst z
            exact hj (R.inj i j a ⟨⟨_, e, rfl⟩, e1⟩ ⟨⟨u, h, hs⟩, hi⟩)
          rw [upd_ne ha]
          exact hn
      · obtain ⟨ys, e6, e7⟩ := R.prs z hz
        have hj : i ≠ z.1 := fun h => by
          rw [← h, e] at e6
          cases e6
        exact ⟨ys, by rw [List.getElem?_set_ne hj]; exact e6, e7⟩
    | _ =>
      refine ⟨H0, ?_, Sub.refl _⟩
      unfold IP.freeze
      rw [e]
      exact R
/-- a name is set -/
theorem Rl.set {r : Slot} (R : Rl G H0 H δ σ) (h : setSlot δ i r = some δ') (hr : SlotOk G H0 H (σ.set i (some v)) i r) (hnp : ∀ ds, r ≠ .prm ds) (hno : isOwn r = true → ∀ p, v = .ref p → ∀ j, ¬ Holds δ σ j p) : Rl G H0 H δ' (σ.set i (some v)) := by
  unfold setSlot at h
  cases e : δ[i]? with
  | none =>
    rw [e] at h
    cases h
  | some s =>
    rw [e] at h
    have hlt : i < δ.length := (List.getElem?_eq_some_iff.mp e).1
    have hlt' : i < σ.length := by rw [R.len]; exact hlt
    have nprm : ∀ ds, s ≠ .prm ds := fun ds z => by
      subst z
      cases h
    have hd : δ' = δ.set i r := by
      cases s with
      | prm ds => exact absurd rfl (nprm ds)
      | _ => cases h; rfl
    subst hd
    have sig : ∀ j, i ≠ j → (σ.set i (some v))[j]? = σ[j]? := fun j hj => List.getElem?_set_ne hj
    have del : ∀ j, i ≠ j → (δ.set i r)[j]? = δ[j]? := fun j hj => List.getElem?_set_ne hj
    refine ⟨by rw [List.length_set, List.length_set]; exact R.len, R.sub, R.up, R.keep, R.fro, fun j u h => ?_, fun a b q h1 h2 => ?_, fun z hz => ?_⟩
    · by_cases hj : i = j
      · subst hj
        rw [List.getElem?_set_self hlt] at h
        cases h
        exact hr
      · rw [del j hj] at h
        have sj := R.slot j u h
        cases u with
        | un => trivial
        | dat d =>
          obtain ⟨w, e1, e2⟩ := sj
          exact ⟨w, by rw [sig j hj]; exact e1, e2⟩
        | own xs =>
          obtain ⟨q, ws, e1, e2⟩ := sj
          exact ⟨q, ws, by rw [sig j hj]; exact e1, e2⟩
        | prm xs =>
          obtain ⟨q, ws, e1, e2⟩ := sj
          exact ⟨q, ws, by rw [sig j hj]; exact e1, e2⟩
    · have get : ∀ j, Holds (δ.set i r) (σ.set i (some v)) j q → (j ≠ i ∧ Holds δ σ j q) ∨ (j = i ∧ isOwn r = true ∧ v = .ref q) := fun j ⟨⟨u, u1, u2⟩, u3⟩ => by
        by_cases hj : i = j
        · subst hj
          rw [List.getElem?_set_self hlt] at u1
          rw [List.getElem?_set_self hlt'] at u3
          cases u1
          cases u3
          exact .inr ⟨rfl, u2, rfl⟩
        · rw [del j hj] at u1
          rw [sig j hj] at u3
          exact .inl ⟨Ne.symm hj, ⟨⟨u, u1, u2⟩, u3⟩⟩
      rcases get a h1 with ⟨a1, a2⟩ | ⟨a1, a2, a3⟩
      · rcases get b h2 with ⟨b1, b2⟩ | ⟨b1, b2, b3⟩
        · exact R.inj a b q a2 b2
        · exact absurd a2 (hno b2 q b3 a)
      · rcases get b h2 with ⟨b1, b2⟩ | ⟨b1, b2, b3⟩
        · exact absurd b2 (hno a2 q a3 b)
        · rw [a1, b1]
    · obtain ⟨xs, e1, e2⟩ := R.prs z hz
      have hj : i ≠ z.1 := fun h => by
        rw [← h, e] at e1
        cases e1
        exact nprm xs rfl
      exact ⟨xs, by rw [del _ hj]; exact e1, by rw [sig _ hj]; exact e2⟩
theorem OpdOk.sub {o : Opd} (h : OpdOk G H0 σ o v) (s : Sub H0 H0') : OpdOk G H0' σ o v := by
  cases o with
  | val d => exact Rel.sub s h
  | «at» i => exact h
theorem Rl.rd (R : Rl G H0 H δ σ) {o : Opd} (h : OpdOk G H0 σ o v) (e : rd δ o = some d) : RelT G.K H0 H v d := by
  cases o with
  | val d' =>
    simp only [IP.rd, Option.some.injEq] at e
    subst e
    exact .inl h
  | «at» i =>
    simp only [IP.rd, Option.bind_eq_some_iff] at e
    obtain ⟨s, e1, e2⟩ := e
    have sj := R.slot i s e1
    have h' : σ[i]? = some (some v) := h
    cases s with
    | un => cases e2
    | dat d' =>
      simp only [slotD, Option.some.injEq] at e2
      subst e2
      obtain ⟨w, e3, e4⟩ := sj
      rw [h'] at e3
      cases e3
      exact .inl e4
    | own ds =>
      simp only [slotD, Option.some.injEq] at e2
      subst e2
      obtain ⟨q, ws, e3, e4, e5, _⟩ := sj
      rw [h'] at e3
      cases e3
      exact .inr ⟨q, ws, ds, rfl, rfl, e4, e5⟩
    | prm ds =>
      simp only [slotD, Option.some.injEq] at e2
      subst e2
      obtain ⟨q, ws, e3, _, e4, e5, _⟩ := sj
      rw [h'] at e3
      cases e3
      exact .inr ⟨q, ws, ds, rfl, rfl, e4, e5⟩
end
end IP
end
section
set_option Elab.async false
set_option linter.all false
set_option maxRecDepth 100000
set_option maxHeartbeats 2000000
namespace IP
open PySem L2
/-! ### the judgements -/
def kE (K : PySem.W.Frag) (f : Ev) : TE := fun σ H Q => ∃ G H0 δ r δ', G.K = K ∧ Rl G H0 H δ σ ∧ f δ = some (r, δ') ∧ ∀ v H0' H', Rl G H0' H' δ' σ → Sub H0 H0' → ResOk G H0' H' δ' σ r v → Q v H'
def kO (K : PySem.W.Frag) (f : Eo) : TE := fun σ H Q => ∃ G H0 δ o δ', G.K = K ∧ Rl G H0 H δ σ ∧ f δ = some (o, δ') ∧ ∀ v H0' H', Rl G H0' H' δ' σ → Sub H0 H0' → OpdOk G H0' σ o v → Q v H'
def kT (K : PySem.W.Frag) (f : Et) : TT := fun σ H Q => ∃ G H0 δ b δ', G.K = K ∧ Rl G H0 H δ σ ∧ f δ = some (b, δ') ∧ ∀ H0' H', Rl G H0' H' δ' σ → Sub H0 H0' → Q b H'
inductive OpdAll (G : Gx) (H0 : Hp) (σ : L2.St) : List Opd → List V → Prop
  | nil : OpdAll G H0 σ [] []
  | cons {o : Opd} {os : List Opd} {v : V} {vs : List V} : OpdOk G H0 σ o v → OpdAll G H0 σ os vs → OpdAll G H0 σ (o :: os) (v :: vs)
def kA (K : PySem.W.Frag) (f : Ea) : TA := fun σ H Q => ∃ G H0 δ os δ', G.K = K ∧ Rl G H0 H δ σ ∧ f δ = some (os, δ') ∧ ∀ vs H0' H', Rl G H0' H' δ' σ → Sub H0 H0' → OpdAll G H0' σ os vs → Q vs H'
def kP (K : PySem.W.Frag) (f : Env → Option (Option Int × Env)) : TO := fun σ H Q => ∃ G H0 δ o δ', G.K = K ∧ Rl G H0 H δ σ ∧ f δ = some (o, δ') ∧ ∀ H0' H', Rl G H0' H' δ' σ → Sub H0 H0' → Q o H'
def kS (K : PySem.W.Frag) (f : Es) : TS := fun D σ H => ∃ G H0 δ o δ', G.K = K ∧ Rl G H0 H δ σ ∧ f δ = some (o, δ') ∧ ∀ σ' H0' H', Rl G H0' H' δ' σ' → Sub H0 H0' → match o with
  | .nx => D.nx σ' H'
  | .bk => D.bk σ' H'
  | .ct => D.ct σ' H'
  | .rt r => ∀ v, ResOk G H0' H' δ' σ' r v → D.rt v H'
abbrev XV (X : Cx) (e : Expr) (f : Ev) : Prop := PE X e (kE X.K f)
abbrev XO (X : Cx) (e : Expr) (f : Eo) : Prop := PE X e (kO X.K f)
abbrev XT (X : Cx) (e : Expr) (f : Et) : Prop := PT X e (kT X.K f)
abbrev XA (X : Cx) (es : List Expr) (f : Ea) : Prop := PA X es (kA X.K f)
abbrev XP (X : Cx) (o : Option Expr) (f : Env → Option (Option Int × Env)) : Prop := L2.PO X o (kP X.K f)
abbrev XS (X : Cx) (st : Stmt) (f : Es) : Prop := PS X st (kS X.K f)
abbrev XB (X : Cx) (st : List Stmt) (f : Es) : Prop := PSs X st (kS X.K f)

section
variable {X : Cx} {K : PySem.W.Frag}
theorem _root_.L2.PE.weak {e : Expr} {t t' : TE} (h : PE X e t) (w : ∀ σ H Q, t' σ H Q → t σ H Q) : PE X e t' := ⟨fun pins s σ H Q I q => h.run pins s σ H Q I (w σ H Q q)⟩
theorem _root_.L2.PT.weak {e : Expr} {t t' : TT} (h : PT X e t) (w : ∀ σ H Q, t' σ H Q → t σ H Q) : PT X e t' := ⟨fun pins s σ H Q I q => h.run pins s σ H Q I (w σ H Q q)⟩
theorem _root_.L2.PA.weak {e : List Expr} {t t' : TA} (h : PA X e t) (w : ∀ σ H Q, t' σ H Q → t σ H Q) : PA X e t' := ⟨fun pos pins s σ H Q I q => h.run pos pins s σ H Q I (w σ H Q q)⟩
theorem _root_.L2.PS.weak {e : Stmt} {t t' : TS} (h : PS X e t) (w : ∀ D σ H, t' D σ H → t D σ H) : PS X e t' := ⟨fun pins s σ H D I q => h.run pins s σ H D I (w D σ H q)⟩
theorem _root_.L2.PSs.weak {e : List Stmt} {t t' : TS} (h : PSs X e t) (w : ∀ D σ H, t' D σ H → t D σ H) : PSs X e t' := ⟨fun pins s σ H D I q => h.run pins s σ H D I (w D σ H q)⟩
theorem _root_.L2.PO.weak {e : Option Expr} {t t' : TO} (h : L2.PO X e t) (w : ∀ σ H Q, t' σ H Q → t σ H Q) : L2.PO X e t' := ⟨fun pins s σ H Q I q => h.run pins s σ H Q I (w σ H Q q)⟩
theorem OpdAll.sub {G : Gx} {A B : Hp} {σ : L2.St} {os : List Opd} {vs : List V} (h : OpdAll G A σ os vs) (s : Sub A B) : OpdAll G B σ os vs := by
  induction h with
  | nil => exact .nil
  | cons q _ ih => exact .cons (q.sub s) ih

/-! ### names, constants -/
theorem x_int {i j pos} : XV X (.Constant (.int i) j pos) (vC (.int i)) := pe_int.weak fun σ H Q ⟨G, H0, δ, r, δ', _, R, e, q⟩ => by
  cases e
  exact q _ _ _ R (Sub.refl _) (.int i)
theorem x_bl {i j pos} : XV X (.Constant (.bool i) j pos) (vC (.bool i)) := pe_bl.weak fun σ H Q ⟨G, H0, δ, r, δ', _, R, e, q⟩ => by
  cases e
  exact q _ _ _ R (Sub.refl _) (.bl i)
theorem x_non {j pos} : XV X (.Constant .none j pos) (vC .none) := pe_non.weak fun σ H Q ⟨G, H0, δ, r, δ', _, R, e, q⟩ => by
  cases e
  exact q _ _ _ R (Sub.refl _) .non
theorem x_str {i j pos} : XV X (.Constant (.str i) j pos) (vC (.str i)) := pe_str.weak fun σ H Q ⟨G, H0, δ, r, δ', _, R, e, q⟩ => by
  cases e
  exact q _ _ _ R (Sub.refl _) (.str i)
/-- a constant of the module -/
theorem x_glob {x : Str} {v : V} {u : Value} {d : D} {pos : Pos} (hg : Gl X x) (hm : X.mg x = some u) (r : RelV v u) (hd : ∀ H, Rel X.K H v d) (hdb : (x == ("__debug__" : Str)) = false := by decide) : XV X (.Name x pos) (vC d) := (pe_glob hg hm r hdb).weak fun σ H Q ⟨G, H0, δ, r, δ', eK, R, e, q⟩ => by
  cases e
  exact q _ _ _ R (Sub.refl _) (by show Rel G.K H0 v d; rw [eK]; exact hd H0)
theorem x_var {i : Nat} {x : Str} {pos : Pos} (hN : X.N[i]? = some x) (hv : Vis X.env.scope x) (hd : (x == ("__debug__" : Str)) = false := by decide) (hcd : (x == ("__classdict__" : Str)) = false := by decide) : XV X (.Name x pos) (vVar i) :=
  (pe_var hN hv hd hcd).weak fun σ H Q ⟨G, H0, δ, r, δ', _, R, e, q⟩ => by
    unfold vVar at e
    cases es : δ[i]? with
    | none =>
      rw [es] at e
      cases e
    | some s =>
      rw [es] at e
      have sj := R.slot i s es
      cases s with
      | dat d =>
        cases e
        obtain ⟨v, h1, h2⟩ := sj
        exact ⟨v, h1, q v _ _ R (Sub.refl _) h2⟩
      | own ds =>
        cases e
        obtain ⟨p, vs, h1, h2, h3, h4, h5⟩ := sj
        obtain ⟨H0', R', s'⟩ := R.freeze i
        refine ⟨.ref p, h1, q _ _ _ R' s' ?_⟩
        have hlt : i < δ.length := (List.getElem?_eq_some_iff.mp es).1
        have e2 : (IP.freeze δ i)[i]? = some (.dat (.list ds)) := by
          unfold IP.freeze
          rw [es]
          exact List.getElem?_set_self hlt
        obtain ⟨w, e3, e4⟩ := R'.slot i _ e2
        rw [h1] at e3
        cases e3
        exact e4
      | _ => cases e
theorem o_var {i : Nat} {x : Str} {pos : Pos} (hN : X.N[i]? = some x) (hv : Vis X.env.scope x) (hd : (x == ("__debug__" : Str)) = false := by decide) (hcd : (x == ("__classdict__" : Str)) = false := by decide) : XO X (.Name x pos) (oVar i) :=
  (pe_var hN hv hd hcd).weak fun σ H Q ⟨G, H0, δ, r, δ', _, R, e, q⟩ => by
    unfold oVar at e
    cases es : δ[i]? with
    | none =>
      rw [es] at e
      cases e
    | some s =>
      rw [es] at e
      have sj := R.slot i s es
      cases s with
      | dat d =>
        cases e
        obtain ⟨v, h1, h2⟩ := sj
        exact ⟨v, h1, q v _ _ R (Sub.refl _) h2⟩
      | own ds =>
        cases e
        obtain ⟨p, vs, h1, _⟩ := sj
        exact ⟨.ref p, h1, q _ _ _ R (Sub.refl _) h1⟩
      | prm ds =>
        cases e
        obtain ⟨p, vs, h1, _⟩ := sj
        exact ⟨.ref p, h1, q _ _ _ R (Sub.refl _) h1⟩
      | un => cases e
theorem o_v {e : Expr} {f : Ev} (h : XV X e f) : XO X e (oV f) := h.weak fun σ H Q ⟨G, H0, δ, o, δ', eK, R, e, q⟩ => by
  unfold oV at e
  simp only [Option.map_eq_some_iff] at e
  obtain ⟨⟨r, δ1⟩, e1, e2⟩ := e
  cases e2
  refine ⟨G, H0, δ, r, δ1, eK, R, e1, fun v H0' H' R' s ok => ?_⟩
  obtain ⟨H1, R1, s1, k1⟩ := R'.toD ok
  exact q v H1 H' R1 (s.trans s1) k1

/-! ### operators -/
/-- what is asked of an operation on two values -/
def OpS (K : PySem.W.Frag) (r : R2) (op : D → D → Option Res) : Prop :=
  ∀ (G : Gx) (H0 H : Hp) (δ : Env) (σ : L2.St) (x y : V) (dx dy : D) (res : Res), G.K = K → Rl G H0 H δ σ → RelT G.K H0 H x dx → RelT G.K H0 H y dy → op dx dy = some res →
    ∀ Q : VK, (∀ v H0' H', Rl G H0' H' δ σ → Sub H0 H0' → ResOk G H0' H' δ σ res v → Q v H') → r x y H Q
def UnS (K : PySem.W.Frag) (r : V → Hp → VK → Prop) (op : D → Option Res) : Prop :=
  ∀ (G : Gx) (H0 H : Hp) (δ : Env) (σ : L2.St) (x : V) (dx : D) (res : Res), G.K = K → Rl G H0 H δ σ → RelT G.K H0 H x dx → op dx = some res →
    ∀ Q : VK, (∀ v H0' H', Rl G H0' H' δ σ → Sub H0 H0' → ResOk G H0' H' δ σ res v → Q v H') → r x H Q
/-- the reading of two operands and an operation -/
theorem bin_read {r : R2} {op : D → D → Option Res} {f g : Eo} (hs : OpS K r op) {σ : L2.St} {H : Hp} {Q : VK} (h : kE K (fBin op f g) σ H Q) : tOp r (kO K f) (kO K g) σ H Q := by
  obtain ⟨G, H0, δ, res, δ', eK, R, e, q⟩ := h
  simp only [fBin, Option.bind_eq_some_iff, Option.map_eq_some_iff] at e
  obtain ⟨⟨o1, δ1⟩, e1, ⟨o2, δ2⟩, e2, dx, e3, dy, e4, r', e5, e6⟩ := e
  cases e6
  refine ⟨G, H0, δ, o1, δ1, eK, R, e1, fun v H0' H' R1 s1 k1 => ?_⟩
  refine ⟨G, H0', δ1, o2, δ2, eK, R1, e2, fun w H0'' H'' R2 s2 k2 => ?_⟩
  exact hs G H0'' H'' δ2 σ v w dx dy res eK R2 (R2.rd (k1.sub s2) e3) (R2.rd k2 e4) e5 Q fun z A B R3 s3 k3 => q z A B R3 ((s1.trans s2).trans s3) k3
theorem un_read {r : V → Hp → VK → Prop} {op : D → Option Res} {f : Eo} (hs : UnS K r op) {σ : L2.St} {H : Hp} {Q : VK} (h : kE K (fUn op f) σ H Q) : tUn r (kO K f) σ H Q := by
  obtain ⟨G, H0, δ, res, δ', eK, R, e, q⟩ := h
  simp only [fUn, Option.bind_eq_some_iff, Option.map_eq_some_iff] at e
  obtain ⟨⟨o1, δ1⟩, e1, dx, e3, r', e5, e6⟩ := e
  cases e6
  refine ⟨G, H0, δ, o1, δ1, eK, R, e1, fun v H0' H' R1 s1 k1 => ?_⟩
  exact hs G H0' H' δ1 σ v dx res eK R1 (R1.rd k1 e3) e5 Q fun z A B R3 s3 k3 => q z A B R3 (s1.trans s3) k3
variable {a b c : Expr} {f g h : Eo} {pos : Pos}
theorem x_bin {o : Operator} {r : R2} {op : D → D → Option Res} (ho : OpR X (binaryOp o) r) (hs : OpS X.K r op) (ha : XO X a f) (hb : XO X b g) : XV X (.BinOp a o b pos) (fBin op f g) :=
  (pe_op ho ha hb).weak fun _ _ _ h => bin_read hs h
theorem x_cmp {o : CmpOp} {r : R2} {op : D → D → Option Res} (ho : OpR X (compareOp o) r) (hs : OpS X.K r op) (ha : XO X a f) (hb : XO X b g) (hm : behindInMarks o b = false) : XV X (.Compare a [o] [b] pos) (fBin op f g) :=
  (pe_cmpR ho ha hb hm).weak fun _ _ _ h => bin_read hs h
theorem x_ix {r : R2} {op : D → D → Option Res} (hr : IxR X r) (hs : OpS X.K r op) (ha : XO X a f) (hb : XO X b g) (hp : PlainIx b) : XV X (.Subscript a b pos) (fBin op f g) :=
  (pe_ix hr ha hb hp).weak fun _ _ _ h => bin_read hs h
theorem x_un {o : UnaryOp} {r : V → Hp → VK → Prop} {op : D → Option Res} (ho : UnR X (unaryOp o) r) (hs : UnS X.K r op) (ha : XO X a f) : XV X (.UnaryOp o a pos) (fUn op f) :=
  (pe_un ho ha).weak fun _ _ _ h => un_read hs h
/-- a comparison as a test -/
theorem x_cmpT {o : CmpOp} {r : R2} {op : D → D → Option Res} (ho : OpR X (compareOp o) r) (hs : OpS X.K r op) (ha : XO X a f) (hb : XO X b g) (hm : behindInMarks o b = false) : XT X (.Compare a [o] [b] pos) (tB (fBin op f g)) :=
  (pt_cmpR ho ha hb hm).weak fun σ H Q ⟨G, H0, δ, res, δ', eK, R, e, q⟩ => by
    simp only [tB, Option.bind_eq_some_iff] at e
    obtain ⟨⟨r1, δ1⟩, e1, e2⟩ := e
    cases r1 with
    | new ds => cases e2
    | dat d =>
      cases d with
      | bool k =>
        cases e2
        refine bin_read hs ⟨G, H0, δ, _, _, eK, R, e1, fun v H0' H' R' s k1 => ?_⟩
        cases k1
        exact ⟨_, rfl, q _ _ R' s⟩
      | _ => cases e2
theorem x_chain {o1 o2 : CmpOp} {r1 r2 : R2} {p1 p2 : D → D → Option Res} (h1 : OpR X (compareOp o1) r1) (h2 : OpR X (compareOp o2) r2) (s1 : OpS X.K r1 p1) (s2 : OpS X.K r2 p2) (ha : XO X a f) (hb : XO X b g) (hc : XO X c h)
    (hm : lastMarks [o1, o2] [b, c] = false := by with_unfolding_all rfl) : XV X (.Compare a [o1, o2] [b, c] pos) (vChain p1 p2 f g h) :=
  (pe_chain h1 h2 ha hb hc hm).weak fun σ H Q ⟨G, H0, δ, res, δ', eK, R, e, q⟩ => by
    simp only [vChain, Option.bind_eq_some_iff] at e
    obtain ⟨⟨o1, δ1⟩, e1, ⟨o2, δ2⟩, e2, dx, e3, dy, e4, r', e5, e6⟩ := e
    refine ⟨G, H0, δ, o1, δ1, eK, R, e1, fun v H0' H' R1 s1' k1 => ?_⟩
    refine ⟨G, H0', δ1, o2, δ2, eK, R1, e2, fun w H0'' H'' R2 s2' k2 => ?_⟩
    refine s1 G H0'' H'' δ2 σ v w dx dy r' eK R2 (R2.rd (k1.sub s2') e3) (R2.rd k2 e4) e5 _ fun z A B R3 s3 k3 => ?_
    cases r' with
    | new _ => cases e6
    | dat d =>
      cases d with
      | bool t =>
        cases k3
        cases t with
        | false =>
          cases e6
          exact ⟨false, rfl, iteF (q _ A B R3 ((s1'.trans s2').trans s3) (.bl false))⟩
        | true =>
          simp only [Option.bind_eq_some_iff, Option.map_eq_some_iff] at e6
          obtain ⟨⟨o3, δ3⟩, e7, dy', e8, dz, e9, r'', e10, e11⟩ := e6
          cases e11
          refine ⟨true, rfl, iteT ?_⟩
          refine ⟨G, A, δ2, o3, δ3, eK, R3, e7, fun u A' B' R4 s4 k4 => ?_⟩
          exact s2 G A' B' δ3 σ w u dy' dz _ eK R4 (R4.rd ((k2.sub s3).sub s4) e8) (R4.rd k4 e9) e10 Q fun z C C' R5 s5 k5 => q z C C' R5 ((((s1'.trans s2').trans s3).trans s4).trans s5) k5
      | _ => cases e6

/-! ### tests -/
theorem truth_ok {G : Gx} {H0 H : Hp} {v : V} {d : D} {t : Bool} (h : RelT G.K H0 H v d) (s : Sub H0 H) (e : truth d = some t) : TruV G.K v H t := by
  rcases h with h | ⟨p, xs, ds, rfl, rfl, h1, h2⟩
  · cases h with
    | non =>
      cases e
      rfl
    | bl b =>
      cases e
      rfl
    | int i =>
      cases e
      rfl
    | str x => cases e
    | lst h1 h2 =>
      rename_i p xs ds
      simp only [truth, Option.some.injEq] at e
      subst e
      refine .inl ⟨xs, SqL.of (s _ _ h1), ?_⟩
      cases h2 <;> rfl
    | tup h1 h2 =>
      rename_i p xs ds
      simp only [truth, Option.some.injEq] at e
      subst e
      refine .inr (.inl ⟨xs, SqT.sub s h1, ?_⟩)
      cases h2 <;> rfl
    | scr _ => cases e
  · simp only [truth, Option.some.injEq] at e
    subst e
    refine .inl ⟨xs, SqL.of h1, ?_⟩
    cases h2 <;> rfl
theorem x_truth (ha : XO X a f) (he : ∀ whole, isTrue a X.env whole = (do let v ← whole; standAt a.pos; holding [v] (truthy v))) : XT X a (tV f) :=
  (pt_truth ha he).weak fun σ H Q ⟨G, H0, δ, res, δ', eK, R, e, q⟩ => by
    simp only [tV, Option.bind_eq_some_iff, Option.map_eq_some_iff] at e
    obtain ⟨⟨o1, δ1⟩, e1, d, e2, t, e3, e4⟩ := e
    cases e4
    refine ⟨G, H0, δ, o1, δ1, eK, R, e1, fun v H0' H' R1 s1 k1 => ?_⟩
    refine ⟨_, ?_, q H0' H' R1 s1⟩
    have := truth_ok (G := G) (R1.rd k1 e2) R1.sub e3
    rw [eK] at this
    exact this
theorem x_and {A B : Et} {rest : List Expr} (ha : XT X a A) (hb : PW X (.BoolOp .And (b :: rest) pos) (kT X.K B)) : PW X (.BoolOp .And (a :: b :: rest) pos) (kT X.K (tAnd A B)) := by
  refine ⟨fun wh pins s σ H Q I h => (pw_and ha hb).run wh pins s σ H Q I ?_⟩
  obtain ⟨G, H0, δ, res, δ', eK, R, e, q⟩ := h
  simp only [tAnd, Option.bind_eq_some_iff] at e
  obtain ⟨⟨t, δ1⟩, e1, e2⟩ := e
  refine ⟨G, H0, δ, t, δ1, eK, R, e1, fun H0' H' R1 s1 => ?_⟩
  cases t with
  | true => exact iteT ⟨G, H0', δ1, res, δ', eK, R1, e2, fun A' B' R2 s2 => q _ _ R2 (s1.trans s2)⟩
  | false =>
    cases e2
    exact iteF (q _ _ R1 s1)
theorem x_or {A B : Et} {rest : List Expr} (ha : XT X a A) (hb : PW X (.BoolOp .Or (b :: rest) pos) (kT X.K B)) : PW X (.BoolOp .Or (a :: b :: rest) pos) (kT X.K (tOr A B)) := by
  refine ⟨fun wh pins s σ H Q I h => (pw_or ha hb).run wh pins s σ H Q I ?_⟩
  obtain ⟨G, H0, δ, res, δ', eK, R, e, q⟩ := h
  simp only [tOr, Option.bind_eq_some_iff] at e
  obtain ⟨⟨t, δ1⟩, e1, e2⟩ := e
  refine ⟨G, H0, δ, t, δ1, eK, R, e1, fun H0' H' R1 s1 => ?_⟩
  cases t with
  | false => exact iteF ⟨G, H0', δ1, res, δ', eK, R1, e2, fun A' B' R2 s2 => q _ _ R2 (s1.trans s2)⟩
  | true =>
    cases e2
    exact iteT (q _ _ R1 s1)
theorem x_not {A : Et} (ha : XT X a A) : XT X (.UnaryOp .Not a pos) (tNot A) := (pt_not ha).weak fun σ H Q ⟨G, H0, δ, res, δ', eK, R, e, q⟩ => by
  simp only [tNot, Option.map_eq_some_iff] at e
  obtain ⟨⟨t, δ1⟩, e1, e2⟩ := e
  cases e2
  exact ⟨G, H0, δ, t, δ1, eK, R, e1, fun H0' H' R1 s1 => q _ _ R1 s1⟩
/-- .. as values of bools -/
theorem x_andV {A B : Ev} {rest : List Expr} (ha : XV X a A) (hb : XV X (.BoolOp .And (b :: rest) pos) B) : XV X (.BoolOp .And (a :: b :: rest) pos) (vAnd A B) := (pe_and ha hb).weak fun σ H Q ⟨G, H0, δ, res, δ', eK, R, e, q⟩ => by
  simp only [vAnd, Option.bind_eq_some_iff] at e
  obtain ⟨⟨t, δ1⟩, e1, e2⟩ := e
  refine ⟨G, H0, δ, t, δ1, eK, R, e1, fun v H0' H' R1 s1 k1 => ?_⟩
  cases t with
  | new _ => cases e2
  | dat d =>
    cases d with
    | bool t =>
      cases k1
      cases t with
      | true => exact ⟨true, rfl, iteT ⟨G, H0', δ1, res, δ', eK, R1, e2, fun v A' B' R2 s2 k2 => q _ _ _ R2 (s1.trans s2) k2⟩⟩
      | false =>
        cases e2
        exact ⟨false, rfl, iteF (q _ _ _ R1 s1 (.bl false))⟩
    | _ => cases e2
theorem x_orV {A B : Ev} {rest : List Expr} (ha : XV X a A) (hb : XV X (.BoolOp .Or (b :: rest) pos) B) : XV X (.BoolOp .Or (a :: b :: rest) pos) (vOr A B) := (pe_or ha hb).weak fun σ H Q ⟨G, H0, δ, res, δ', eK, R, e, q⟩ => by
  simp only [vOr, Option.bind_eq_some_iff] at e
  obtain ⟨⟨t, δ1⟩, e1, e2⟩ := e
  refine ⟨G, H0, δ, t, δ1, eK, R, e1, fun v H0' H' R1 s1 k1 => ?_⟩
  cases t with
  | new _ => cases e2
  | dat d =>
    cases d with
    | bool t =>
      cases k1
      cases t with
      | false => exact ⟨false, rfl, iteF ⟨G, H0', δ1, res, δ', eK, R1, e2, fun v A' B' R2 s2 k2 => q _ _ _ R2 (s1.trans s2) k2⟩⟩
      | true =>
        cases e2
        exact ⟨true, rfl, iteT (q _ _ _ R1 s1 (.bl true))⟩
    | _ => cases e2
theorem x_ite {T : Et} {A B : Ev} (ht : XT X c T) (ha : XV X a A) (hb : XV X b B) : XV X (.IfExp c a b pos) (vIte T A B) := (pe_ifExp ht ha hb).weak fun σ H Q ⟨G, H0, δ, res, δ', eK, R, e, q⟩ => by
  simp only [vIte, Option.bind_eq_some_iff] at e
  obtain ⟨⟨t, δ1⟩, e1, e2⟩ := e
  refine ⟨G, H0, δ, t, δ1, eK, R, e1, fun H0' H' R1 s1 => ?_⟩
  cases t with
  | true => exact iteT ⟨G, H0', δ1, res, δ', eK, R1, e2, fun v A' B' R2 s2 k2 => q _ _ _ R2 (s1.trans s2) k2⟩
  | false => exact iteF ⟨G, H0', δ1, res, δ', eK, R1, e2, fun v A' B' R2 s2 k2 => q _ _ _ R2 (s1.trans s2) k2⟩

/-! ### displays -/
theorem xa_nil : XA X [] aNil := pa_nil.weak fun σ H Q ⟨G, H0, δ, res, δ', eK, R, e, q⟩ => by
  cases e
  exact q [] _ _ R (Sub.refl _) .nil
theorem xa_cons {es : List Expr} {A : Ea} (ha : XO X a f) (hb : XA X es A) (hs : starEach (a :: es) X.env = (false, eval a X.env) :: starEach es X.env := by rfl) : XA X (a :: es) (aCons f A) := (pa_cons ha hb hs).weak fun σ H Q ⟨G, H0, δ, res, δ', eK, R, e, q⟩ => by
  simp only [aCons, Option.bind_eq_some_iff, Option.map_eq_some_iff] at e
  obtain ⟨⟨o1, δ1⟩, e1, ⟨os, δ2⟩, e2, e3⟩ := e
  cases e3
  refine ⟨G, H0, δ, o1, δ1, eK, R, e1, fun v H0' H' R1 s1 k1 => ?_⟩
  exact ⟨G, H0', δ1, os, δ2, eK, R1, e2, fun vs A' B' R2 s2 k2 => q _ _ _ R2 (s1.trans s2) (.cons (k1.sub s2) k2)⟩
theorem OpdAll.vals {G : Gx} {H0 : Hp} {σ : L2.St} : ∀ {os : List Opd} {vs : List V} {ds : List D}, OpdAll G H0 σ os vs → vals os = some ds → RelAll G.K H0 vs ds
  | _, _, _, .nil, e => by
    cases e
    exact .nil
  | _, _, _, .cons (o := o) h t, e => by
    cases o with
    | val d =>
      simp only [IP.vals, Option.map_eq_some_iff] at e
      obtain ⟨es, e1, rfl⟩ := e
      exact .cons h (OpdAll.vals t e1)
    | «at» i => cases e
theorem line_le {n : Nat} (h : n ≤ line) : n ≤ sizeLine := Nat.le_trans h (by rw [sizeLine_eq]; decide)
theorem x_tup {es : List Expr} {j : Nat} {A : Ea} (ha : XA X es A) : XV X (.Tuple es j pos) (vTup A) := (pe_tup ha).weak fun σ H Q ⟨G, H0, δ, res, δ', eK, R, e, q⟩ => by
  simp only [vTup, Option.bind_eq_some_iff] at e
  obtain ⟨⟨os, δ1⟩, e1, ds, e2, e3⟩ := e
  split at e3
  · rename_i hl
    cases e3
    refine ⟨G, H0, δ, os, δ1, eK, R, e1, fun vs H0' H' R1 s1 k1 => ?_⟩
    have ra := k1.vals e2
    refine ⟨line_le (by rw [ra.length]; exact hl), fun p hp => ?_⟩
    obtain ⟨R2, s2⟩ := R1.laid0 (o := .tup vs) hp
    exact q _ _ _ R2 (s1.trans s2) (.tup (SqT.of upd_same) (ra.sub s2))
  · cases e3
theorem x_lst {es : List Expr} {A : Ea} (ha : XA X es A) : XV X (.List es pos) (vLst A) := (pe_lst ha).weak fun σ H Q ⟨G, H0, δ, res, δ', eK, R, e, q⟩ => by
  simp only [vLst, Option.bind_eq_some_iff] at e
  obtain ⟨⟨os, δ1⟩, e1, ds, e2, e3⟩ := e
  split at e3
  · rename_i hl
    cases e3
    refine ⟨G, H0, δ, os, δ1, eK, R, e1, fun vs H0' H' R1 s1 k1 => ?_⟩
    have ra := k1.vals e2
    refine ⟨line_le (by rw [ra.length]; exact hl), fun p hp => ?_⟩
    have f := R1.fresh hp
    exact q _ _ _ (R1.laid hp) s1 ⟨p, vs, rfl, upd_same, ra, f.1, f.2.1, f.2.2⟩
  · cases e3

/-! ### slices -/
theorem xp_none : XP X none pNo := po_none.weak fun σ H Q ⟨G, H0, δ, res, δ', eK, R, e, q⟩ => by
  cases e
  exact q _ _ R (Sub.refl _)
theorem xp_some (ha : XO X a f) : XP X (some a) (pSo f) := (po_some ha).weak fun σ H Q ⟨G, H0, δ, res, δ', eK, R, e, q⟩ => by
  simp only [pSo, Option.bind_eq_some_iff] at e
  obtain ⟨⟨o, δ1⟩, e1, e2⟩ := e
  refine ⟨G, H0, δ, o, δ1, eK, R, e1, fun v H0' H' R1 s1 k1 => ?_⟩
  cases o with
  | «at» i => cases e2
  | val d =>
    cases d with
    | int i =>
      cases e2
      cases k1
      exact ⟨i, rfl, q _ _ R1 s1⟩
    | _ => cases e2
theorem clampIx_eq (n d : Nat) (o : Option Int) : clampIx n d o = HT.sIx n d o := by cases o <;> rfl
theorem cut_rel {K : PySem.W.Frag} {H0 : Hp} {vs : List V} {ds : List D} (r : RelAll K H0 vs ds) (lo hi : Option Int) : RelAll K H0 (cutV vs lo hi) (cutD ds lo hi) := by
  unfold cutV cutD
  rw [clampIx_eq, clampIx_eq, r.length]
  exact (r.drop _).take _
theorem x_sl {lo hi : Option Expr} {L U : Env → Option (Option Int × Env)} {p2 : Pos} (ha : XO X a f) (hl : XP X lo L) (hu : XP X hi U) : XV X (.Subscript a (.Slice lo hi none p2) pos) (fSl f L U) :=
  (pe_slice (sl_list.or sl_tupA) ha hl hu).weak fun σ H Q ⟨G, H0, δ, res, δ', eK, R, e, q⟩ => by
    simp only [fSl, Option.bind_eq_some_iff] at e
    obtain ⟨⟨o, δ1⟩, e1, ⟨l, δ2⟩, e2, ⟨u, δ3⟩, e3, d, e4, e5⟩ := e
    refine ⟨G, H0, δ, o, δ1, eK, R, e1, fun v H0' H' R1 s1 k1 => ?_⟩
    refine ⟨G, H0', δ1, l, δ2, eK, R1, e2, fun A A' R2 s2 => ?_⟩
    refine ⟨G, A, δ2, u, δ3, eK, R2, e3, fun B B' R3 s3 => ?_⟩
    have rr := R3.rd ((k1.sub s2).sub s3) e4
    have list : ∀ p xs ds, v = .ref p → B' p = some (.lst xs) → RelAll G.K B xs ds → d = .list ds → rSlL X.K v l u B' Q ∨ rSlA X.K v l u B' Q := by
      intro p xs ds ev h1 h2 ed
      subst ed ev
      cases e5
      refine .inl ⟨p, xs, rfl, SqL.of h1, fun z hz => ?_⟩
      have fr := R3.fresh hz
      exact q _ _ _ (R3.laid hz) ((s1.trans s2).trans s3) ⟨z, _, rfl, upd_same, cut_rel h2 l u, fr.1, fr.2.1, fr.2.2⟩
    rcases rr with rr | ⟨p, xs, ds, ed, ev, h1, h2⟩
    · cases rr with
      | lst h1 h2 => exact list _ _ _ rfl (R3.sub _ _ h1) h2 rfl
      | tup h1 h2 =>
        rename_i p xs ds
        cases e5
        refine .inr ⟨p, xs, rfl, by rw [← eK]; exact SqT.sub R3.sub h1, fun hw => ?_, fun _ z hz => ?_⟩
        · refine q _ _ _ R3 ((s1.trans s2).trans s3) ?_
          have ec : cutD ds l u = ds := by
            unfold cutD
            rw [clampIx_eq, clampIx_eq, ← h2.length, hw.1, hw.2]
            simp [h2.length]
          show Rel G.K B (.ref p) (.tuple (cutD ds l u))
          rw [ec]
          exact .tup h1 h2
        · obtain ⟨R4, s4⟩ := R3.laid0 (o := .tup (cutV xs l u)) hz
          exact q _ _ _ R4 (((s1.trans s2).trans s3).trans s4) (.tup (SqT.of upd_same) ((cut_rel h2 l u).sub s4))
      | _ => cases e5
    · exact list _ _ _ ev h1 h2 ed

/-! ### builtins -/
inductive RelTAll (K : PySem.W.Frag) (H0 H : Hp) : List V → List D → Prop
  | nil : RelTAll K H0 H [] []
  | cons {v : V} {vs : List V} {d : D} {ds : List D} : RelT K H0 H v d → RelTAll K H0 H vs ds → RelTAll K H0 H (v :: vs) (d :: ds)
theorem Rl.rdAll {G : Gx} {H0 H : Hp} {δ : Env} {σ : L2.St} (R : Rl G H0 H δ σ) : ∀ {os : List Opd} {vs : List V} {ds : List D}, OpdAll G H0 σ os vs → rdAll δ os = some ds → RelTAll G.K H0 H vs ds
  | _, _, _, .nil, e => by
    cases e
    exact .nil
  | _, _, _, .cons h t, e => by
    simp only [IP.rdAll, Option.bind_eq_some_iff, Option.map_eq_some_iff] at e
    obtain ⟨d, e1, es, e2, rfl⟩ := e
    exact .cons (R.rd h e1) (Rl.rdAll R t e2)
def BiS (K : PySem.W.Frag) (r : List V → Hp → VK → Prop) (b : List D → Option Res) : Prop :=
  ∀ (G : Gx) (H0 H : Hp) (δ : Env) (σ : L2.St) (vs : List V) (ds : List D) (res : Res), G.K = K → Rl G H0 H δ σ → RelTAll G.K H0 H vs ds → b ds = some res →
    ∀ Q : VK, (∀ v H0' H', Rl G H0' H' δ σ → Sub H0 H0' → ResOk G H0' H' δ σ res v → Q v H') → r vs H Q
theorem bi_read {r : List V → Hp → VK → Prop} {b : List D → Option Res} {A : Ea} (hs : BiS K r b) {σ : L2.St} {H : Hp} {Q : VK} (h : kE K (vBi b A) σ H Q) : tCB r (kA K A) σ H Q := by
  obtain ⟨G, H0, δ, res, δ', eK, R, e, q⟩ := h
  simp only [vBi, Option.bind_eq_some_iff, Option.map_eq_some_iff] at e
  obtain ⟨⟨os, δ1⟩, e1, ds, e2, r', e3, e4⟩ := e
  cases e4
  refine ⟨G, H0, δ, os, δ1, eK, R, e1, fun vs H0' H' R1 s1 k1 => ?_⟩
  exact hs G H0' H' δ1 σ vs ds _ eK R1 (R1.rdAll k1 e2) e3 Q fun z C D R3 s3 k3 => q z C D R3 (s1.trans s3) k3
theorem x_biB {id : String} {r : List V → Hp → VK → Prop} {bb : List D → Option Res} {A : Ea} {x : Str} {p : Pos} {es : List Expr} (hc : CallR X (.builtin id) r) (hs : BiS X.K r bb) (hg : Gl X x) (hm : X.mg x = none) (hv : bootBuiltins x = some (.builtin id)) (ha : XA X (a :: es) A)
    (hn : x ≠ "__name__" := by decide) (hdb : (x == ("__debug__" : Str)) = false := by decide) (h1 : starEach (a :: es) X.env = (false, eval a X.env) :: starEach es X.env := by rfl) (h2 : (backTo pos (starEach es X.env)).any (·.1) = false := by rfl) : XV X (.Call (.Name x p) (a :: es) [] pos) (vBi bb A) :=
  (pe_callB hc hg hm hv ha hn hdb h1 h2).weak fun _ _ _ h => bi_read hs h
theorem x_biT {id : String} {r : List V → Hp → VK → Prop} {bb : List D → Option Res} {A : Ea} {x : Str} {p : Pos} {es : List Expr} (hc : CallR X (.type id) r) (hs : BiS X.K r bb) (hg : Gl X x) (hm : X.mg x = none) (hv : bootBuiltins x = some (.type id)) (ha : XA X (a :: es) A)
    (hn : x ≠ "__name__" := by decide) (hdb : (x == ("__debug__" : Str)) = false := by decide) (h1 : starEach (a :: es) X.env = (false, eval a X.env) :: starEach es X.env := by rfl) (h2 : (backTo pos (starEach es X.env)).any (·.1) = false := by rfl) : XV X (.Call (.Name x p) (a :: es) [] pos) (vBi bb A) :=
  (pe_callTy hc hg hm hv ha hn hdb h1 h2).weak fun _ _ _ h => bi_read hs h
end
end IP
end
section
set_option Elab.async false
set_option linter.all false
set_option maxRecDepth 100000
set_option maxHeartbeats 2000000
namespace IP
open PySem L2
/-! ### calls of the text's own functions -/
def RetOk (K : PySem.W.Frag) (H H0' H' : Hp) : Res → V → Prop
  | .dat d, v => Rel K H0' v d
  | .new ds, v => ∃ q vs, v = .ref q ∧ H' q = some (.lst vs) ∧ RelAll K H0' vs ds ∧ H0' q = none ∧ H q = none
def Fro (H0 H H0' : Hp) : Prop := ∀ a o, H0' a = some o → (∃ u, H0 a = some u) ∨ H a = none
/-- what a function promises -/
def spI (K : PySem.W.Frag) (c : Fnc) : Sp := fun vs H Q _ => ∃ (H0 : Hp) (ds : List D) (r : Res), Sub H0 H ∧
  ((RelAll K H0 vs ds ∧ c none ds = some (r, none) ∧ ∀ v H0' H', Sub H0 H0' → Sub H0' H' → Sub H H' → Fro H0 H H0' → RetOk K H H0' H' r v → Q v H') ∨
   (∃ p xs xds yds ws, vs = .ref p :: ws ∧ RelAll K H0 ws ds ∧ H p = some (.lst xs) ∧ RelAll K H0 xs xds ∧ H0 p = none ∧ c (some xds) ds = some (r, some yds) ∧
     ∀ v H0' H' ys, Sub H0 H0' → Sub H0' H' → (∀ a o, H a = some o → a ≠ p → H' a = some o) → Fro H0 H H0' → H' p = some (.lst ys) → RelAll K H0' ys yds → H0' p = none → RetOk K H H0' H' r v → Q v H'))
section
variable {K : PySem.W.Frag} {A B : Hp}
/-- values without lists do not read lists -/
theorem Rel.noList : ∀ {v : V} {d : D}, Rel K A v d → noList d = true → (∀ a o, A a = some o → (∀ xs, o ≠ .lst xs) → B a = some o) → Rel K B v d := by
  intro v d r
  refine Rel.rec (motive_1 := fun v d _ => IP.noList d = true → (∀ a o, A a = some o → (∀ xs, o ≠ .lst xs) → B a = some o) → Rel K B v d) (motive_2 := fun vs ds _ => noListAll ds = true → (∀ a o, A a = some o → (∀ xs, o ≠ .lst xs) → B a = some o) → RelAll K B vs ds) ?_ ?_ ?_ ?_ ?_ ?_ ?_ ?_ ?_ r
  · intro _ _; exact .non
  · intro b _ _; exact .bl b
  · intro i _ _; exact .int i
  · intro x _ _; exact .str x
  · intro a xs ds e r ih c _
    simp [IP.noList] at c
  · intro a xs ds e r ih c k
    refine .tup ?_ (ih (by simpa [IP.noList] using c) k)
    rcases e with (e | ⟨o, e⟩) | e
    · exact .inl (.inl (k _ _ e fun xs z => nomatch z))
    · exact .inl (.inr ⟨o, k _ _ e fun xs z => nomatch z⟩)
    · exact .inr e
  · intro a ns e c
    simp [IP.scr, IP.noList] at c
  · intro _ _; exact .nil
  · intro v vs d ds r1 r2 h1 h2 c k
    have c' : IP.noList d = true ∧ noListAll ds = true := by simpa [noListAll] using c
    exact .cons (h1 c'.1 k) (h2 c'.2 k)
theorem RelAll.noList : ∀ {vs : List V} {ds : List D}, RelAll K A vs ds → noListAll ds = true → (∀ a o, A a = some o → (∀ xs, o ≠ .lst xs) → B a = some o) → RelAll K B vs ds
  | _, _, .nil, _, _ => .nil
  | _, _, .cons r t, c, k => by
    have c' := by simpa [noListAll] using c
    exact .cons (r.noList c'.1 k) (RelAll.noList t c'.2 k)
end
section
variable {G : Gx} {H0 H H0' H' : Hp} {δ δ' : Env} {σ : L2.St}
/-- the heap has grown, the owned lists stand -/
theorem Rl.grow (R : Rl G H0 H δ σ) (hH : Sub H H') (h0 : Sub H0 H0') (hs : Sub H0' H') (hf : Fro H0 H H0') : Rl G H0' H' δ σ := by
  have nf : ∀ p u, H p = some u → H0 p = none → H0' p = none := fun p u e n => by
    cases q : H0' p with
    | none => rfl
    | some o =>
      rcases hf p o q with ⟨u', e'⟩ | e'
      · rw [n] at e'
        cases e'
      · rw [e] at e'
        cases e'
  refine ⟨R.len, hs, R.up.trans h0, fun a o e h => hH a o (R.keep a o e h), fun a o e => ?_, fun i s e => ?_, R.inj, R.prs⟩
  · rcases hf a o e with ⟨u, h⟩ | h
    · exact R.fro a u h
    · exact .inr (R.fresh h).2.1
  · have sj := R.slot i s e
    cases s with
    | un => trivial
    | dat d =>
      obtain ⟨v, e1, r⟩ := sj
      exact ⟨v, e1, r.sub h0⟩
    | own ds =>
      obtain ⟨p, vs, e1, e2, e3, e4, e5⟩ := sj
      exact ⟨p, vs, e1, hH _ _ e2, e3.sub h0, nf p _ e2 e4, e5⟩
    | prm ds =>
      obtain ⟨p, vs, e1, e0, e2, e3, e4⟩ := sj
      exact ⟨p, vs, e1, e0, hH _ _ e2, e3.sub h0, nf p _ e2 e4⟩
theorem ResOk.of {r : Res} {v : V} (R : Rl G H0 H δ σ) (h : RetOk G.K H H0' H' r v) : ResOk G H0' H' δ σ r v := by
  cases r with
  | dat d => exact h
  | new ds =>
    obtain ⟨q, vs, e1, e2, e3, e4, e5⟩ := h
    have f := R.fresh e5
    exact ⟨q, vs, e1, e2, e3, e4, f.2.1, f.2.2⟩
theorem OpdAll.vals0 : ∀ {os : List Opd} {vs : List V} {ds : List D}, OpdAll G H0 σ os vs → anyAt os = false → rdAll δ os = some ds → RelAll G.K H0 vs ds
  | _, _, _, .nil, _, e => by
    cases e
    exact .nil
  | _, _, _, .cons (o := o) h t, n, e => by
    cases o with
    | val d =>
      simp only [IP.rdAll, IP.rd, Option.bind_eq_some_iff, Option.map_eq_some_iff, Option.some.injEq] at e
      obtain ⟨d', rfl, es, e2, rfl⟩ := e
      exact .cons h (OpdAll.vals0 t n e2)
    | «at» i => cases n
end
section
variable {X : Cx} {K : PySem.W.Frag} {c : Fnc} {A : Ea}
open Classical in
theorem call_read {σ : L2.St} {H : Hp} {Q : VK} {E : XK} (h : kE K (vCall c A) σ H Q) : tCall (spI K c) [] E (kA K A) σ H Q := by
  obtain ⟨G, H0, δ, res, δ', eK, R, e, q⟩ := h
  subst eK
  simp only [vCall, Option.bind_eq_some_iff] at e
  obtain ⟨⟨os, δ1⟩, e1, ds, e2, ⟨r, out⟩, e3, e4⟩ := e
  cases out with
  | some _ => cases e4
  | none =>
    refine ⟨G, H0, δ, os, δ1, rfl, R, e1, fun vs A' H' R1 s1 k1 => ?_⟩
    show spI G.K c (vs ++ []) H' Q E
    rw [List.append_nil]
    by_cases hat : anyAt os = false
    · dsimp only at e4
      rw [if_pos hat] at e4
      cases e4
      refine ⟨A', ds, _, R1.sub, .inl ⟨k1.vals0 hat e2, e3, fun v B H'' h1 h2 h3 h4 h5 => ?_⟩⟩
      exact q v B H'' (R1.grow h3 h1 h2 h4) (s1.trans h1) (ResOk.of R1 h5)
    · dsimp only at e4
      rw [if_neg hat] at e4
      -- the owned lists are lent
      let L : Addr → Prop := fun a => ∃ i, Holds δ1 σ i a
      let AC : Hp := fun a => if L a then H' a else A' a
      have nL : ∀ a, L a → A' a = none := fun a ⟨i, ⟨s, x1, x2⟩, x3⟩ => by
        have := R1.slot i s x1
        cases s with
        | own ds =>
          obtain ⟨p, ws, y1, y2, y3, y4, y5⟩ := this
          rw [x3] at y1
          cases y1
          exact y4
        | prm ds =>
          obtain ⟨p, ws, y1, y0, y2, y3, y4⟩ := this
          rw [x3] at y1
          cases y1
          exact y4
        | _ => cases x2
      have lL : ∀ a, L a → ∃ xs, H' a = some (.lst xs) := fun a ⟨i, ⟨s, x1, x2⟩, x3⟩ => by
        have := R1.slot i s x1
        cases s with
        | own ds =>
          obtain ⟨p, ws, y1, y2, y3, y4, y5⟩ := this
          rw [x3] at y1
          cases y1
          exact ⟨_, y2⟩
        | prm ds =>
          obtain ⟨p, ws, y1, y0, y2, y3, y4⟩ := this
          rw [x3] at y1
          cases y1
          exact ⟨_, y2⟩
        | _ => cases x2
      have subA : Sub A' AC := fun a o e => by
        show (if L a then H' a else A' a) = some o
        by_cases ha : L a
        · rw [nL a ha] at e
          cases e
        · rw [if_neg ha]
          exact e
      have subH : Sub AC H' := fun a o e => by
        have e' : (if L a then H' a else A' a) = some o := e
        by_cases ha : L a
        · rw [if_pos ha] at e'
          exact e'
        · rw [if_neg ha] at e'
          exact R1.sub a o e'
      have rel : ∀ {os : List Opd} {vs : List V} {ds : List D}, OpdAll G A' σ os vs → rdAll δ1 os = some ds → RelAll G.K AC vs ds := by
        intro os vs ds h
        induction h generalizing ds with
        | nil =>
          intro e
          cases e
          exact .nil
        | cons h t ih =>
          intro e
          rename_i o os v vs
          simp only [IP.rdAll, Option.bind_eq_some_iff, Option.map_eq_some_iff] at e
          obtain ⟨d, x1, es, x2, rfl⟩ := e
          refine .cons ?_ (ih x2)
          cases o with
          | val d' =>
            simp only [IP.rd, Option.some.injEq] at x1
            subst x1
            exact Rel.sub subA h
          | «at» i =>
            simp only [IP.rd, Option.bind_eq_some_iff] at x1
            obtain ⟨s, y1, y2⟩ := x1
            have h' : σ[i]? = some (some v) := h
            have sj := R1.slot i s y1
            cases s with
            | un => cases y2
            | dat d' =>
              simp only [slotD, Option.some.injEq] at y2
              subst y2
              obtain ⟨w, z1, z2⟩ := sj
              rw [h'] at z1
              cases z1
              exact z2.sub subA
            | own ds =>
              simp only [slotD, Option.some.injEq] at y2
              subst y2
              obtain ⟨p, ws, z1, z2, z3, z4, z5⟩ := sj
              rw [h'] at z1
              cases z1
              refine .lst ?_ (z3.sub subA)
              show (if L p then H' p else A' p) = _
              rw [if_pos ⟨i, ⟨_, y1, rfl⟩, h'⟩]
              exact z2
            | prm ds =>
              simp only [slotD, Option.some.injEq] at y2
              subst y2
              obtain ⟨p, ws, z1, z0, z2, z3, z4⟩ := sj
              rw [h'] at z1
              cases z1
              refine .lst ?_ (z3.sub subA)
              show (if L p then H' p else A' p) = _
              rw [if_pos ⟨i, ⟨_, y1, rfl⟩, h'⟩]
              exact z2
      refine ⟨AC, ds, r, subH, .inl ⟨rel k1 e2, e3, fun v B H'' h1 h2 h3 h4 h5 => ?_⟩⟩
      let B0 : Hp := fun a => if L a then none else B a
      have b1 : Sub A' B0 := fun a o e => by
        show (if L a then none else B a) = some o
        by_cases ha : L a
        · rw [nL a ha] at e
          cases e
        · rw [if_neg ha]
          exact h1 a o (subA a o e)
      have b2 : Sub B0 H'' := fun a o e => by
        have e' : (if L a then none else B a) = some o := e
        by_cases ha : L a
        · rw [if_pos ha] at e'
          cases e'
        · rw [if_neg ha] at e'
          exact h2 a o e'
      have b3 : Fro A' H' B0 := fun a o e => by
        have e' : (if L a then none else B a) = some o := e
        by_cases ha : L a
        · rw [if_pos ha] at e'
          cases e'
        · rw [if_neg ha] at e'
          rcases h4 a o e' with ⟨u, hu⟩ | hu
          · have hu' : (if L a then H' a else A' a) = some u := hu
            rw [if_neg ha] at hu'
            exact .inl ⟨u, hu'⟩
          · exact .inr hu
      have b4 : ∀ a o, B a = some o → (∀ xs, o ≠ .lst xs) → B0 a = some o := fun a o e n => by
        show (if L a then none else B a) = some o
        by_cases ha : L a
        · obtain ⟨xs, hx⟩ := lL a ha
          have : AC a = some (.lst xs) := by
            show (if L a then H' a else A' a) = _
            rw [if_pos ha]
            exact hx
          rw [h1 a _ this] at e
          cases e
          exact absurd rfl (n xs)
        · rw [if_neg ha]
          exact e
      have b5 : Rl G B0 H'' δ1 σ := R1.grow h3 b1 b2 b3
      cases r with
      | dat d =>
        simp only at e4
        split at e4
        · rename_i hn
          cases e4
          exact q v B0 H'' b5 (s1.trans b1) (Rel.noList h5 hn b4)
        · cases e4
      | new es =>
        simp only at e4
        split at e4
        · rename_i hn
          cases e4
          obtain ⟨z, ws, x1, x2, x3, x4, x5⟩ := h5
          have f := R1.fresh x5
          refine q v B0 H'' b5 (s1.trans b1) ⟨z, ws, x1, x2, x3.noList hn b4, ?_, f.2.1, f.2.2⟩
          show (if L z then none else B z) = none
          by_cases hz : L z
          · rw [if_pos hz]
          · rw [if_neg hz]
            exact x4
        · cases e4
theorem callR_read {σ : L2.St} {H : Hp} {Q : VK} {E : XK} {i : Nat} (h : kE K (vCallR c i A) σ H Q) : tCall (spI K c) [] E (tCons (tVar i) (kA K A)) σ H Q := by
  obtain ⟨G, H0, δ, res, δ', eK, R, e, q⟩ := h
  subst eK
  simp only [vCallR, Option.bind_eq_some_iff] at e
  obtain ⟨⟨os, δ1⟩, e1, ds, e2, e3⟩ := e
  split at e1
  · rename_i ho
    have hv : ∃ p, σ[i]? = some (some (.ref p)) := by
      unfold ownAt at ho
      cases es : δ[i]? with
      | none =>
        rw [es] at ho
        cases ho
      | some s =>
        rw [es] at ho
        have sj := R.slot i s es
        cases s with
        | own ds =>
          obtain ⟨p, vs, h1, _⟩ := sj
          exact ⟨p, h1⟩
        | prm ds =>
          obtain ⟨p, vs, h1, _⟩ := sj
          exact ⟨p, h1⟩
        | _ => cases ho
    obtain ⟨p, hp⟩ := hv
    refine ⟨.ref p, hp, G, H0, δ, os, δ1, rfl, R, e1, fun vs A' H' R1 s1 k1 => ?_⟩
    show spI G.K c (.ref p :: vs ++ []) H' Q E
    rw [List.append_nil]
    have ra := k1.vals e2
    have key : ∀ (s s' : Slot) (xs : List D) (r : Res) (ys : List D), δ1[i]? = some s → isOwn s = true → c (some xs) ds = some (r, some ys) → (∃ vs, H' p = some (.lst vs) ∧ RelAll G.K A' vs xs ∧ A' p = none) → ((s' = .own ys ∧ ∃ xs, s = .own xs) ∨ (s' = .prm ys ∧ ∃ xs, s = .prm xs)) →
        res = r → δ' = δ1.set i s' → spI G.K c (.ref p :: vs) H' Q E := by
      rintro s s' xs r ys x1 x2 x3 ⟨ws, x4, x5, x6⟩ x7 rfl rfl
      refine ⟨A', ds, res, R1.sub, .inr ⟨p, ws, xs, ys, vs, rfl, ra, x4, x5, x6, x3, fun v B H'' zs h1 h2 h3 h4 h5 h6 h7 h8 => ?_⟩⟩
      have hB : Sub B (upd H'' p (.lst ws)) := fun a o e => by
        rw [upd_ne (ne_of_none e h7)]
        exact h2 a o e
      have hH : Sub H' (upd H'' p (.lst ws)) := fun a o e => by
        by_cases ha : a = p
        · subst ha
          rw [upd_same, ← e, x4]
        · rw [upd_ne ha]
          exact h3 a o e ha
      have R2 : Rl G B (upd H'' p (.lst ws)) δ1 σ := R1.grow hH h1 hB h4
      have R3 := R2.put (p := p) x1 x2 hp h6 x7
      rw [upd_upd] at R3
      have e5 : upd H'' p (.lst zs) = H'' := by
        funext a
        by_cases ha : a = p
        · subst ha
          rw [upd_same, h5]
        · rw [upd_ne ha]
      rw [e5] at R3
      refine q v B H'' R3 (s1.trans h1) ?_
      cases res with
      | dat d => exact h8
      | new es =>
        obtain ⟨z, us, y1, y2, y3, y4, y5⟩ := h8
        have f := R1.fresh y5
        refine ⟨z, us, y1, y2, y3, y4, f.2.1, fun j hj => f.2.2 j ?_⟩
        obtain ⟨⟨u, u1, u2⟩, u3⟩ := hj
        by_cases hij : i = j
        · subst hij
          exact ⟨⟨s, x1, x2⟩, u3⟩
        · rw [List.getElem?_set_ne hij] at u1
          exact ⟨⟨u, u1, u2⟩, u3⟩
    dsimp only at e3
    cases es : δ1[i]? with
    | none =>
      rw [es] at e3
      cases e3
    | some s =>
      rw [es] at e3
      have sj := R1.slot i s es
      cases s with
      | own xs =>
        simp only [Option.bind_eq_some_iff] at e3
        obtain ⟨⟨r, out⟩, e4, e5⟩ := e3
        cases out with
        | none => cases e5
        | some ys =>
          cases e5
          obtain ⟨p', ws, y1, y2, y3, y4, y5⟩ := sj
          rw [hp] at y1
          cases y1
          exact key _ _ xs _ ys es rfl e4 ⟨ws, y2, y3, y4⟩ (.inl ⟨rfl, xs, rfl⟩) rfl rfl
      | prm xs =>
        simp only [Option.bind_eq_some_iff] at e3
        obtain ⟨⟨r, out⟩, e4, e5⟩ := e3
        cases out with
        | none => cases e5
        | some ys =>
          cases e5
          obtain ⟨p', ws, y1, y0, y2, y3, y4⟩ := sj
          rw [hp] at y1
          cases y1
          exact key _ _ xs _ ys es rfl e4 ⟨ws, y2, y3, y4⟩ (.inr ⟨rfl, xs, rfl⟩) rfl rfl
      | _ => cases e3
  · cases e1
variable {CX : CXT} {k : Nat} {fa : Addr} {fd : FuncData} {ps : List Str} {E : XK} {x : Str} {p pos : Pos} {e : Expr} {es : List Expr}
/-- f(e, ..) -/
theorem x_call (F : FnOk X.prog X.w X.K X.mg X.base CX k fa fd ps (spI X.K c)) (hr : Room k X.A) (hg : Gl X x) (hm : X.mg x = some (.ref fa)) (hk : PySem.W.keepIn X.K (.ref fa) = true) (hb : Binds X.K fd ps []) (hx : Passes CX X E)
    (ha : XA X (e :: es) A) (hdb : (x == ("__debug__" : Str)) = false := by decide) (he : starEach (e :: es) X.env = (false, eval e X.env) :: starEach es X.env := by rfl) (hpl : (backTo pos (starEach es X.env)).any (·.1) = false := by rfl) :
    XV X (.Call (.Name x p) (e :: es) [] pos) (vCall c A) := (pe_call F hr hg hm hk hb .nil hx ha hdb he hpl).weak fun _ _ _ h => call_read h
/-- f(), a def without parameters -/
theorem x_call0 (F : FnOk X.prog X.w X.K X.mg X.base CX k fa fd ps (spI X.K c)) (hr : Room k X.A) (hg : Gl X x) (hm : X.mg x = some (.ref fa)) (hk : PySem.W.keepIn X.K (.ref fa) = true) (hb : Binds X.K fd ps []) (hx : Passes CX X E)
    (hdb : (x == ("__debug__" : Str)) = false := by decide) : XV X (.Call (.Name x p) [] [] pos) (vCall c aNil) := (pe_call0 F hr hg hm hk hb .nil hx hdb).weak fun σ H Q h => by
  obtain ⟨G, H0, δ, os, δ', eK, R, e, q⟩ := call_read (E := E) h
  cases e
  exact q [] H0 H R (Sub.refl _) .nil
/-- f(row, e, ..), the list row by reference -/
theorem x_callR {i : Nat} {y : Str} {py : Pos} (F : FnOk X.prog X.w X.K X.mg X.base CX k fa fd ps (spI X.K c)) (hr : Room k X.A) (hg : Gl X x) (hm : X.mg x = some (.ref fa)) (hk : PySem.W.keepIn X.K (.ref fa) = true) (hb : Binds X.K fd ps []) (hx : Passes CX X E)
    (hv : PE X (.Name y py) (tVar i)) (ha : XA X es A) (hs : starEach (.Name y py :: es) X.env = (false, eval (.Name y py) X.env) :: starEach es X.env := by rfl) (hdb : (x == ("__debug__" : Str)) = false := by decide) (hpl : (backTo pos (starEach es X.env)).any (·.1) = false := by rfl) :
    XV X (.Call (.Name x p) (.Name y py :: es) [] pos) (vCallR c i A) := (pe_call F hr hg hm hk hb .nil hx (pa_cons hv ha hs) hdb hs hpl).weak fun _ _ _ h => callR_read h
end
end IP
end
section
set_option Elab.async false
set_option linter.all false
set_option maxRecDepth 100000
set_option maxHeartbeats 2000000
namespace IP
open PySem L2
/-! ### targets -/
def GS (K : PySem.W.Frag) (g : TG) (t : Tg) : Prop := ∀ (G : Gx) (A H : Hp) (δ δ' : Env) (σ : L2.St) (v : V) (d : D), G.K = K → Rl G A H δ σ → Rel G.K A v d → t.put d δ = some δ' →
  ∀ Q : L2.St → Hp → Prop, (∀ σ', Rl G A H δ' σ' → (∀ vs, (∀ i ∈ t.slots, i ∈ vs) → wipe σ' vs = wipe σ vs) → Q σ' H) → g v σ H Q
theorem wipe_set {σ : L2.St} {i : Nat} {x : Option V} : ∀ {vs : List Nat}, i ∈ vs → wipe (σ.set i x) vs = wipe σ vs
  | [], h => by simp at h
  | v :: vs, h => by
    unfold wipe
    by_cases hv : i ∈ vs
    · rw [wipe_set hv]
    · have e : i = v := by
        rcases List.mem_cons.mp h with e | e
        · exact e
        · exact absurd e hv
      subst e
      have comm : ∀ ws : List Nat, i ∉ ws → wipe (σ.set i x) ws = (wipe σ ws).set i x := by
        intro ws
        induction ws with
        | nil => intro _; rfl
        | cons w ws ih =>
          intro hn
          simp only [List.mem_cons, not_or] at hn
          unfold wipe
          rw [ih hn.2, List.set_comm _ _ hn.1]
      rw [comm vs hv, List.set_set]
section
variable {K : PySem.W.Frag}
theorem gs_nm {i : Nat} : GS K (gName i) (.nm i) := by
  intro G A H δ δ' σ v d eK R r e Q q
  refine q _ (Rl.set R e ?_ (fun ds z => nomatch z) (fun z => nomatch z)) fun vs h => wipe_set (h i (by simp [Tg.slots]))
  have hlt : i < σ.length := by
    rw [R.len]
    have e' : setSlot δ i (.dat d) = some δ' := e
    unfold setSlot at e'
    cases es : δ[i]? with
    | none =>
      rw [es] at e'
      cases e'
    | some s => exact (List.getElem?_eq_some_iff.mp es).1
  exact ⟨v, List.getElem?_set_self hlt, r⟩
inductive GSs (K : PySem.W.Frag) : TGs → List Nat → Prop
  | nil : GSs K gNil []
  | cons {t : TGs} {i : Nat} {is : List Nat} : GSs K t is → GSs K (gCons (gName i) t) (i :: is)
theorem gs_tup {n : Nat} {t : TGs} {is : List Nat} (hn : n = is.length) (h : GSs K t is) : GS K (gTup K n t) (.tup is) := by
  intro G A H δ δ' σ v d eK R r e Q q
  cases d with
  | tuple ds =>
    cases r with
    | tup h1 h2 =>
      rename_i p xs
      have e' : setDs δ is ds = some δ' := e
      have hlen : ∀ {δ : Env} {is : List Nat} {ds : List D}, setDs δ is ds = some δ' → is.length = ds.length := by
        intro δ is
        induction is generalizing δ with
        | nil =>
          intro ds e
          cases ds with
          | nil => rfl
          | cons _ _ => cases e
        | cons i is ih =>
          intro ds e
          cases ds with
          | nil => cases e
          | cons d ds =>
            simp only [setDs, Option.bind_eq_some_iff] at e
            obtain ⟨δ1, _, e2⟩ := e
            rw [List.length_cons, List.length_cons, ih e2]
      refine ⟨p, xs, rfl, by rw [← eK]; exact SqT.sub R.sub h1, by rw [h2.length, hn, hlen e'], ?_⟩
      have go : ∀ (t : TGs) (is : List Nat), GSs K t is → ∀ (δ : Env) (σ : L2.St) (xs : List V) (ds : List D), Rl G A H δ σ → RelAll G.K A xs ds → setDs δ is ds = some δ' →
          ∀ Q : L2.St → Hp → Prop, (∀ σ', Rl G A H δ' σ' → (∀ vs, (∀ i ∈ is, i ∈ vs) → wipe σ' vs = wipe σ vs) → Q σ' H) → t xs σ H Q := by
        intro t is h
        induction h with
        | nil =>
          intro δ σ xs ds R r e Q q
          cases ds with
          | nil =>
            cases r
            cases e
            exact ⟨rfl, q σ R fun vs _ => rfl⟩
          | cons _ _ => cases e
        | cons h ih =>
          rename_i t i is
          intro δ σ xs ds R r e Q q
          cases ds with
          | nil => cases e
          | cons d ds =>
            cases r with
            | cons r1 r2 =>
              simp only [setDs, Option.bind_eq_some_iff] at e
              obtain ⟨δ1, e1, e2⟩ := e
              refine ⟨_, _, rfl, ?_⟩
              refine gs_nm (K := K) G A H δ δ1 σ _ d eK R r1 e1 _ fun σ1 R1 w1 => ?_
              exact ih δ1 σ1 _ ds R1 r2 e2 Q fun σ2 R2 w2 => q σ2 R2 fun vs hv => (w2 vs fun j hj => hv j (List.mem_cons_of_mem _ hj)).trans (w1 vs fun j hj => hv j (by
                have : j = i := by simpa [Tg.slots] using hj
                rw [this]
                exact List.mem_cons_self))
      exact go t is h δ σ xs ds R h2 e' Q q
  | _ => cases e
end

theorem Fro.refl {A H : Hp} : Fro A H A := fun a o e => .inl ⟨o, e⟩
/-! ### what is walked -/
structure IW (G : Gx) (H0 : Hp) (σ : L2.St) (J : It) (xs : List D) (ow : Option Nat) : Prop where
  goes : ∀ i A H δ τ, Rl G A H δ τ → Sub H0 A → (∀ k, ow = some k → τ[k]? = σ[k]?) → still δ xs ow = true → i < xs.length → J.go i H
  stops : ∀ A H δ τ, Rl G A H δ τ → Sub H0 A → (∀ k, ow = some k → τ[k]? = σ[k]?) → still δ xs ow = true → J.stop xs.length H
  yields : ∀ i A H δ τ x H', Rl G A H δ τ → Sub H0 A → (∀ k, ow = some k → τ[k]? = σ[k]?) → still δ xs ow = true → i < xs.length → J.yld i H x H' →
    ∃ B d, Rl G B H' δ τ ∧ Sub A B ∧ Sub H H' ∧ Fro A H B ∧ xs[i]? = some d ∧ Rel G.K B x d
def kI (K : PySem.W.Frag) (f : Ei) : TI := fun σ H R => ∃ G H0 δ xs ow δ', G.K = K ∧ Rl G H0 H δ σ ∧ f δ = some ((xs, ow), δ') ∧
  ∀ J H0' H', Rl G H0' H' δ' σ → Sub H0 H0' → IW G H0' σ J xs ow → R J H'
abbrev XI (X : Cx) (tg e : Expr) (f : Ei) : Prop := PI X tg e (kI X.K f)
section
variable {X : Cx} {K : PySem.W.Frag}
theorem _root_.L2.PI.weak {tg e : Expr} {t t' : TI} (h : PI X tg e t) (w : ∀ σ H R, t' σ H R → t σ H R) : PI X tg e t' := ⟨fun pins s σ H R I q => h.run pins s σ H R I (w σ H R q)⟩
theorem PI.or_ {tg e : Expr} {t t' : TI} {s : TI} (h : PI X tg e t) (h' : PI X tg e t') (w : ∀ σ H R, s σ H R → t σ H R ∨ t' σ H R) : PI X tg e s := ⟨fun pins st σ H R I q => by
  rcases w σ H R q with q | q
  · exact h.run pins st σ H R I q
  · exact h'.run pins st σ H R I q⟩
mutual
theorem same_eq : ∀ {a b : D}, same a b = true → a = b
  | .none, b, h => by cases b <;> simp_all [same]
  | .bool _, b, h => by cases b <;> simp_all [same]
  | .int _, b, h => by cases b <;> simp_all [same]
  | .str _, b, h => by cases b <;> simp_all [same]
  | .list xs, b, h => by
    cases b with
    | list ys =>
      have e := sameAll_eq (a := xs) (b := ys) (by simpa [same] using h)
      rw [e]
    | _ => simp [same] at h
  | .tuple xs, b, h => by
    cases b with
    | tuple ys =>
      have e := sameAll_eq (a := xs) (b := ys) (by simpa [same] using h)
      rw [e]
    | _ => simp [same] at h
  | .dict _, b, h => by cases b <;> simp [same] at h
theorem sameAll_eq : ∀ {a b : List D}, sameAll a b = true → a = b
  | [], b, h => by cases b <;> simp_all [sameAll]
  | x :: xs, b, h => by
    cases b with
    | nil => simp [sameAll] at h
    | cons y ys =>
      have h' : same x y = true ∧ sameAll xs ys = true := by simpa [sameAll] using h
      rw [same_eq h'.1, sameAll_eq h'.2]
end
/-- a sequence of values that is walked in place, by its address -/
def InPlace (G : Gx) (H0 : Hp) (σ : L2.St) (p : Addr) (xs : List D) (ow : Option Nat) : Prop :=
  match ow with
  | none => Rel G.K H0 (.ref p) (.list xs)
  | some k => σ[k]? = some (some (.ref p))
theorem inplace_at {G : Gx} {H0 A H : Hp} {δ : Env} {σ τ : L2.St} {p : Addr} {xs : List D} {ow : Option Nat} (h : InPlace G H0 σ p xs ow) (R : Rl G A H δ τ) (s : Sub H0 A) (hk : ∀ k, ow = some k → τ[k]? = σ[k]?) (st : still δ xs ow = true) :
    ∃ ys, H p = some (.lst ys) ∧ RelAll G.K A ys xs := by
  cases ow with
  | none =>
    have h' : Rel G.K H0 (.ref p) (.list xs) := h
    cases h' with
    | lst h1 h2 => exact ⟨_, R.sub _ _ (s _ _ h1), h2.sub s⟩
  | some k =>
    have h' : σ[k]? = some (some (.ref p)) := h
    rw [← hk k rfl] at h'
    simp only [still] at st
    cases es : δ[k]? with
    | none =>
      rw [es] at st
      cases st
    | some u =>
      rw [es] at st
      have sj := R.slot k u es
      cases u with
      | un => cases st
      | dat d =>
        obtain ⟨v, e1, r⟩ := sj
        rw [h'] at e1
        cases e1
        cases d with
        | list ys =>
          have e2 := sameAll_eq (a := xs) (b := ys) st
          subst e2
          cases r with
          | lst h1 h2 => exact ⟨_, R.sub _ _ h1, h2⟩
        | _ => cases st
      | own ys =>
        obtain ⟨q, vs, e1, e2, e3, _⟩ := sj
        rw [h'] at e1
        cases e1
        have e4 := sameAll_eq (a := xs) (b := ys) st
        subst e4
        exact ⟨vs, e2, e3⟩
      | prm ys =>
        obtain ⟨q, vs, e1, _, e2, e3, _⟩ := sj
        rw [h'] at e1
        cases e1
        have e4 := sameAll_eq (a := xs) (b := ys) st
        subst e4
        exact ⟨vs, e2, e3⟩
theorem iw_list {G : Gx} {H0 : Hp} {σ : L2.St} {p : Addr} {xs : List D} {ow : Option Nat} (h : InPlace G H0 σ p xs ow) : IW G H0 σ (Itl G.K p) xs ow where
  goes := fun i A H δ τ R s hk st hi => by
    obtain ⟨ys, e1, e2⟩ := inplace_at h R s hk st
    have hl : i < ys.length := by rw [e2.length]; exact hi
    exact ⟨ys, ys[i], SqL.of e1, by simp [hl]⟩
  stops := fun A H δ τ R s hk st => by
    obtain ⟨ys, e1, e2⟩ := inplace_at h R s hk st
    exact ⟨ys, SqL.of e1, Nat.le_of_eq e2.length⟩
  yields := fun i A H δ τ x H' R s hk st hi y => by
    obtain ⟨ys, e1, e2⟩ := inplace_at h R s hk st
    obtain ⟨rfl, y⟩ := y
    obtain ⟨d, h1, h2⟩ := e2.getV (y ys (SqL.of e1))
    exact ⟨A, d, R, Sub.refl _, Sub.refl _, Fro.refl, h1, h2⟩
theorem iw_tup {G : Gx} {H0 : Hp} {σ : L2.St} {p : Addr} {ys : List V} {xs : List D} (h : SqT G.K H0 p ys) (r : RelAll G.K H0 ys xs) {ow : Option Nat} : IW G H0 σ (Itt G.K p) xs ow where
  goes := fun i A H δ τ R s hk st hi => by
    have hl : i < ys.length := by rw [r.length]; exact hi
    exact ⟨ys, ys[i], SqT.sub R.sub (SqT.sub s h), by simp [hl]⟩
  stops := fun A H δ τ R s hk st => ⟨ys, SqT.sub R.sub (SqT.sub s h), Nat.le_of_eq r.length⟩
  yields := fun i A H δ τ x H' R s hk st hi y => by
    obtain ⟨rfl, y⟩ := y
    obtain ⟨d, h1, h2⟩ := r.getV (y ys (SqT.sub R.sub (SqT.sub s h)))
    exact ⟨A, d, R, Sub.refl _, Sub.refl _, Fro.refl, h1, h2.sub s⟩
/-- an operand that is a list, walked in place; a tuple -/
theorem seq_l {G : Gx} {H0 H : Hp} {δ : Env} {σ : L2.St} {o : Opd} {v : V} {xs : List D} (R : Rl G H0 H δ σ) (k : OpdOk G H0 σ o v) (e : rd δ o = some (.list xs)) :
    ∃ p ys, v = .ref p ∧ H p = some (.lst ys) ∧ InPlace G H0 σ p xs (own? o) := by
  rcases R.rd k e with r | ⟨p, ys, ds', ed, ev, e1, e2⟩
  · cases r with
    | lst h1 h2 =>
      rename_i p ys
      refine ⟨p, ys, rfl, R.sub _ _ h1, ?_⟩
      cases o with
      | val d' => exact .lst h1 h2
      | «at» i => exact k
  · cases ed
    subst ev
    refine ⟨p, ys, rfl, e1, ?_⟩
    cases o with
    | val d' =>
      simp only [IP.rd, Option.some.injEq] at e
      subst e
      exact k
    | «at» i => exact k
theorem seq_t {G : Gx} {H0 H : Hp} {δ : Env} {σ : L2.St} {o : Opd} {v : V} {xs : List D} (R : Rl G H0 H δ σ) (k : OpdOk G H0 σ o v) (e : rd δ o = some (.tuple xs)) :
    ∃ p ys, v = .ref p ∧ SqT G.K H0 p ys ∧ RelAll G.K H0 ys xs := by
  rcases R.rd k e with r | ⟨p, ys, ds', ed, _⟩
  · cases r with
    | tup h1 h2 => exact ⟨_, _, rfl, h1, h2⟩
  · cases ed
variable {tg e e2 : Expr} {f g : Eo} {pos p : Pos}
/-- a list or a tuple -/
theorem xi_seq (he : XO X e f) : XI X tg e (iE f) := PI.or_ (pi_list he) (pi_tup he) fun σ H Rr ⟨G, H0, δ, xs, ow, δ', eK, R, e0, q⟩ => by
  simp only [iE, Option.bind_eq_some_iff, Option.map_eq_some_iff] at e0
  obtain ⟨⟨o, δ1⟩, e1, d, e2, ys, e3, e4⟩ := e0
  cases e4
  cases d with
  | list ds =>
    cases e3
    refine .inl ⟨G, H0, δ, o, δ1, eK, R, e1, fun v H0' H' R1 s1 k1 => ?_⟩
    obtain ⟨a, ys, rfl, h1, h2⟩ := seq_l R1 k1 e2
    exact ⟨a, rfl, ⟨ys, SqL.of h1⟩, by rw [← eK]; exact q _ _ _ R1 s1 (iw_list h2)⟩
  | tuple ds =>
    cases e3
    refine .inr ⟨G, H0, δ, o, δ1, eK, R, e1, fun v H0' H' R1 s1 k1 => ?_⟩
    obtain ⟨a, ys, rfl, h1, h2⟩ := seq_t R1 k1 e2
    exact ⟨a, rfl, ⟨ys, by rw [← eK]; exact SqT.sub R1.sub h1⟩, by rw [← eK]; exact q _ _ _ R1 s1 (iw_tup h1 h2)⟩
  | _ => cases e3
theorem rangeD_get {lo : Int} {n i : Nat} (h : i < n) : (rangeD lo n)[i]? = some (.int (lo + (i : Nat))) := by
  unfold rangeD
  simp [h]
theorem rangeD_length (lo : Int) (n : Nat) : (rangeD lo n).length = n := by
  unfold rangeD
  simp
theorem iw_range {G : Gx} {H0 : Hp} {σ : L2.St} {lo : Int} {n : Nat} : IW G H0 σ (Itr lo n) (rangeD lo n) none where
  goes := fun i A H δ τ R s hk st hi => by
    rw [rangeD_length] at hi
    exact hi
  stops := fun A H δ τ R s hk st => by
    rw [rangeD_length]
    exact Nat.le_refl n
  yields := fun i A H δ τ x H' R s hk st hi y => by
    obtain ⟨rfl, rfl⟩ := y
    rw [rangeD_length] at hi
    exact ⟨A, _, R, Sub.refl _, Sub.refl _, Fro.refl, rangeD_get hi, .int _⟩
theorem xi_range1 (hg : Gl X "range") (hm : X.mg "range" = none) (ha : XO X e f) (hs : starEach [e] X.env = (false, eval e X.env) :: starEach [] X.env := by rfl) : XI X tg (.Call (.Name "range" p) [e] [] pos) (iRange1 f) :=
  (pi_range1 hg hm (pa_cons ha pa_nil hs) hs).weak fun σ H Rr ⟨G, H0, δ, xs, ow, δ', eK, R, e0, q⟩ => by
    simp only [iRange1, Option.bind_eq_some_iff] at e0
    obtain ⟨⟨o, δ1⟩, e1, e2⟩ := e0
    refine ⟨G, H0, δ, o, δ1, eK, R, e1, fun v H0' H' R1 s1 k1 => ?_⟩
    cases o with
    | «at» i => cases e2
    | val d =>
      cases d with
      | int j =>
        dsimp only at e2
        split at e2
        · rename_i hj
          cases e2
          cases k1
          exact ⟨j, rfl, hj.1, hj.2, q _ _ _ R1 s1 iw_range⟩
        · cases e2
      | _ => cases e2
theorem xi_range2 (hg : Gl X "range") (hm : X.mg "range" = none) (ha : XO X e f) (hb : XO X e2 g) (hs : starEach [e, e2] X.env = (false, eval e X.env) :: starEach [e2] X.env := by rfl) (hs2 : starEach [e2] X.env = (false, eval e2 X.env) :: starEach [] X.env := by rfl) : XI X tg (.Call (.Name "range" p) [e, e2] [] pos) (iRange2 f g) :=
  (pi_range2 hg hm (pa_cons ha (pa_cons hb pa_nil hs2) hs) (by rw [hs, hs2]; rfl) hs2).weak fun σ H Rr ⟨G, H0, δ, xs, ow, δ', eK, R, e0, q⟩ => by
    simp only [iRange2, Option.bind_eq_some_iff] at e0
    obtain ⟨⟨o, δ1⟩, e1, ⟨o2, δ2⟩, e2, e3⟩ := e0
    refine ⟨G, H0, δ, o, δ1, eK, R, e1, fun v H0' H' R1 s1 k1 => ?_⟩
    refine ⟨G, H0', δ1, o2, δ2, eK, R1, e2, fun w A' B' R2 s2 k2 => ?_⟩
    cases o with
    | «at» i => cases e3
    | val d =>
      cases d with
      | int j =>
        cases o2 with
        | «at» i => cases e3
        | val d =>
          cases d with
          | int l =>
            dsimp only at e3
            split at e3
            · rename_i hj
              cases e3
              cases k1
              cases k2
              exact ⟨j, l, rfl, hj, q _ _ _ R2 (s1.trans s2) iw_range⟩
            · cases e3
          | _ => cases e3
      | _ => cases e3

/-! ### for -/
theorem forGo_drop {g : Tg} {b : Es} {xs : List D} {i : Nat} (h : i < xs.length) : xs.drop i = xs[i] :: xs.drop (i + 1) := List.drop_eq_getElem_cons h
theorem x_for {g : TG} {t : Tg} {b : Es} {body : List Stmt} {it : Ei} (hp : PassesOwn (model X.prog X.w) X.A X.env X.xe) (hc : X.calm = true) (hi : XI X tg e it) (hg : PG X tg g) (gs : GS X.K g t) (hb : XB X body b) (hs : ∀ x, foldedSetIterable e X.env x = pure x := by intro _; rfl) : XS X (.For tg e body [] pos) (sFor it t b) := by
  refine PS.weak (ps_for hp hc hi hg hb hs) fun D σ H ⟨G, H0, δ, o, δ', eK, R, e0, q⟩ => ?_
  simp only [sFor, Option.bind_eq_some_iff] at e0
  obtain ⟨⟨⟨xs, ow⟩, δ1⟩, e1, e2⟩ := e0
  dsimp only at e2
  split at e2
  · rename_i how
    subst how
    refine ⟨G, H0, δ, xs, none, δ1, eK, R, e1, fun J H0' H' R1 s1 iw => ?_⟩
    have st : ∀ δ, still δ xs none = true := fun _ => rfl
    let YY : Nat → Hp → V → Hp → Prop := fun i H x H' => J.yld i H x H'
    let GG : Hp → Prop := fun H => ∃ A δ τ, Rl G A H δ τ ∧ Sub H0' A
    have w : Walk J xs.length GG YY := ⟨fun i H hi ⟨A, δ, τ, R, s⟩ => iw.goes i A H δ τ R s (fun k h => nomatch h) (st _) hi, fun H ⟨A, δ, τ, R, s⟩ => iw.stops A H δ τ R s (fun k h => nomatch h) (st _), fun i H x H' _ _ y => y⟩
    refine for_it w (fun i τ H => (∃ A δ, Rl G A H δ τ ∧ Sub H0' A ∧ forGo t b (xs.drop i) δ = some (o, δ')) ∨ ((∃ A δ, Rl G A H δ τ ∧ Sub H0' A) ∧ False)) (.inl ⟨H0', δ1, R1, Sub.refl _, e2⟩) ?_ ?_ ?_
    · rintro i τ H _ (⟨A, δ, R2, s2, _⟩ | ⟨_, h⟩)
      · exact ⟨A, δ, τ, R2, s2⟩
      · exact h.elim
    · rintro i x τ H H'' hi (⟨A, δ, R2, s2, e3⟩ | ⟨_, h⟩) y
      · obtain ⟨B, d, R3, s3, _, _, e4, r⟩ := iw.yields i A H δ τ x H'' R2 s2 (fun k h => nomatch h) (st _) hi y
        rw [List.drop_eq_getElem_cons hi] at e3
        have ed : xs[i] = d := by
          rw [List.getElem?_eq_getElem hi] at e4
          exact Option.some.inj e4
        rw [ed] at e3
        simp only [forGo, Option.bind_eq_some_iff] at e3
        obtain ⟨δ2, e5, ⟨o2, δ3⟩, e6, e7⟩ := e3
        refine gs G B H'' δ δ2 τ x d eK R3 r e5 _ fun τ2 R4 _ => ?_
        refine ⟨G, B, δ2, o2, δ3, eK, R4, e6, fun τ3 A3 H3 R5 s5 => ?_⟩
        have s6 : Sub H0' A3 := (s2.trans s3).trans s5
        cases o2 with
        | nx => exact .inl ⟨A3, δ3, R5, s6, e7⟩
        | ct => exact .inl ⟨A3, δ3, R5, s6, e7⟩
        | bk =>
          cases e7
          exact q τ3 A3 H3 R5 (s1.trans s6)
        | rt r =>
          cases e7
          exact q τ3 A3 H3 R5 (s1.trans s6)
      · exact h.elim
    · rintro τ H (⟨A, δ, R2, s2, e3⟩ | ⟨_, h⟩)
      · rw [List.drop_length] at e3
        cases e3
        exact q τ A H R2 (s1.trans s2)
      · exact h.elim
  · cases e2

/-! ### while -/
theorem x_while {c : Expr} {body : List Stmt} {t : Et} {b : Es} (hp : PassesOwn (model X.prog X.w) X.A X.env X.xe) (hc : XT X c t) (hb : XB X body b) : XS X (.While c body [] pos) (sWhile t b) := by
  refine PS.weak (ps_while hp hc hb) fun D σ H ⟨G, H0, δ, o, δ', eK, R, e0, q⟩ => ?_
  have e0' : whileGo t b turns δ = some (o, δ') := e0
  refine ⟨fun m τ H => ∃ A δ, Rl G A H δ τ ∧ Sub H0 A ∧ whileGo t b m δ = some (o, δ'), ⟨turns, H0, δ, R, Sub.refl _, e0'⟩, ?_⟩
  rintro m τ H ⟨A, δ, R2, s2, e1⟩
  cases m with
  | zero => cases e1
  | succ m =>
    simp only [whileGo, Option.bind_eq_some_iff] at e1
    obtain ⟨⟨k, δ1⟩, e2, e3⟩ := e1
    refine ⟨G, A, δ, k, δ1, eK, R2, e2, fun A1 H1 R3 s3 => ?_⟩
    cases k with
    | false =>
      cases e3
      exact iteF (q τ A1 H1 R3 (s2.trans s3))
    | true =>
      simp only [if_true, Option.bind_eq_some_iff] at e3
      obtain ⟨⟨o2, δ2⟩, e4, e5⟩ := e3
      refine iteT ⟨fun τ H => (∃ A δ, Rl G A H δ τ ∧ Sub H0 A ∧ whileGo t b m δ = some (o, δ')), fun τ H' h => ⟨m, Nat.lt_succ_self m, h⟩, ?_⟩
      refine ⟨G, A1, δ1, o2, δ2, eK, R3, e4, fun τ3 A3 H3 R5 s5 => ?_⟩
      have s6 : Sub H0 A3 := (s2.trans s3).trans s5
      cases o2 with
      | nx => exact ⟨A3, δ2, R5, s6, e5⟩
      | ct => exact ⟨A3, δ2, R5, s6, e5⟩
      | bk =>
        cases e5
        exact q τ3 A3 H3 R5 s6
      | rt r =>
        cases e5
        exact q τ3 A3 H3 R5 s6

/-! ### blocks and simple statements -/
theorem xb_nil : XB X [] sPass := pss_nil.weak fun D σ H ⟨G, H0, δ, o, δ', eK, R, e, q⟩ => by
  cases e
  exact q σ H0 H R (Sub.refl _)
theorem xb_cons {st : Stmt} {rest : List Stmt} {a b : Es} (h1 : XS X st a) (h2 : XB X rest b) : XB X (st :: rest) (sSeq a b) := (pss_cons h1 h2).weak fun D σ H ⟨G, H0, δ, o, δ', eK, R, e, q⟩ => by
  simp only [sSeq, Option.bind_eq_some_iff] at e
  obtain ⟨⟨o1, δ1⟩, e1, e2⟩ := e
  refine ⟨G, H0, δ, o1, δ1, eK, R, e1, fun τ A H1 R1 s1 => ?_⟩
  cases o1 with
  | nx => exact ⟨G, A, δ1, o, δ', eK, R1, e2, fun τ2 A2 H2 R2 s2 => q τ2 A2 H2 R2 (s1.trans s2)⟩
  | bk =>
    cases e2
    exact q τ A H1 R1 s1
  | ct =>
    cases e2
    exact q τ A H1 R1 s1
  | rt r =>
    cases e2
    exact q τ A H1 R1 s1
theorem xb_one {st : Stmt} {a : Es} (h1 : XS X st a) : XB X [st] a := pss_one h1
theorem xs_pass : XS X (.Pass pos) sPass := ps_pass.weak fun D σ H ⟨G, H0, δ, o, δ', eK, R, e, q⟩ => by
  cases e
  exact q σ H0 H R (Sub.refl _)
theorem xs_break : XS X (.Break pos) sBreak := ps_break.weak fun D σ H ⟨G, H0, δ, o, δ', eK, R, e, q⟩ => by
  cases e
  exact q σ H0 H R (Sub.refl _)
theorem xs_continue : XS X (.Continue pos) sCont := ps_continue.weak fun D σ H ⟨G, H0, δ, o, δ', eK, R, e, q⟩ => by
  cases e
  exact q σ H0 H R (Sub.refl _)
theorem xs_never {st : Stmt} : XS X st sNever := ps_never.weak fun D σ H ⟨G, H0, δ, o, δ', eK, R, e, q⟩ => by cases e
theorem xs_ret {a : Ev} (h : XV X e a) : XS X (.Return (some e) pos) (sRet a) := (ps_ret h).weak fun D σ H ⟨G, H0, δ, o, δ', eK, R, e, q⟩ => by
  simp only [sRet, Option.map_eq_some_iff] at e
  obtain ⟨⟨r, δ1⟩, e1, e2⟩ := e
  cases e2
  exact ⟨G, H0, δ, r, δ1, eK, R, e1, fun v A H1 R1 s1 k => q σ A H1 R1 s1 v k⟩
theorem xs_retN : XS X (.Return none pos) sRetN := ps_retN.weak fun D σ H ⟨G, H0, δ, o, δ', eK, R, e, q⟩ => by
  cases e
  exact q σ H0 H R (Sub.refl _) .non .non
theorem xs_if {c : Expr} {a b : List Stmt} {t : Et} {A B : Es} (hc : XT X c t) (ha : XB X a A) (hb : XB X b B) : XS X (.If c a b pos) (sIf t A B) := (ps_if hc ha hb).weak fun D σ H ⟨G, H0, δ, o, δ', eK, R, e, q⟩ => by
  simp only [sIf, Option.bind_eq_some_iff] at e
  obtain ⟨⟨k, δ1⟩, e1, e2⟩ := e
  refine ⟨G, H0, δ, k, δ1, eK, R, e1, fun A1 H1 R1 s1 => ?_⟩
  cases k with
  | true => exact iteT ⟨G, A1, δ1, o, δ', eK, R1, e2, fun τ2 A2 H2 R2 s2 => q τ2 A2 H2 R2 (s1.trans s2)⟩
  | false => exact iteF ⟨G, A1, δ1, o, δ', eK, R1, e2, fun τ2 A2 H2 R2 s2 => q τ2 A2 H2 R2 (s1.trans s2)⟩
theorem xs_ex {a : Ev} (h : XV X e a) (hs : swapsWith e none pos.line X.env = pure false := by rfl) : XS X (.Expr e pos) (sEx a) := (ps_expr h hs).weak fun D σ H ⟨G, H0, δ, o, δ', eK, R, e, q⟩ => by
  simp only [sEx, Option.map_eq_some_iff] at e
  obtain ⟨⟨r, δ1⟩, e1, e2⟩ := e
  cases e2
  exact ⟨G, H0, δ, r, δ1, eK, R, e1, fun v A H1 R1 s1 k => q σ A H1 R1 s1⟩
theorem setSlot_lt {δ δ' : Env} {i : Nat} {s : Slot} (h : setSlot δ i s = some δ') : i < δ.length := by
  unfold setSlot at h
  cases es : δ[i]? with
  | none =>
    rw [es] at h
    cases h
  | some s => exact (List.getElem?_eq_some_iff.mp es).1
/-- a result goes to a name -/
theorem Rl.store {G : Gx} {A H : Hp} {δ δ' : Env} {σ : L2.St} {i : Nat} {r : Res} {v : V} (R : Rl G A H δ σ) (k : ResOk G A H δ σ r v) (h : setSlot δ i (slotOf r) = some δ') : Rl G A H δ' (σ.set i (some v)) := by
  have hlt := setSlot_lt h
  rw [← R.len] at hlt
  cases r with
  | dat d => exact Rl.set R h ⟨v, List.getElem?_set_self hlt, k⟩ (fun ds z => nomatch z) (fun z => nomatch z)
  | new ds =>
    obtain ⟨p, vs, rfl, e1, e2, e3, e4, e5⟩ := k
    exact Rl.set R h ⟨p, vs, List.getElem?_set_self hlt, e1, e2, e3, e4⟩ (fun ds z => nomatch z) (fun _ q hq j => by
      cases hq
      exact e5 j)
theorem set_read {i : Nat} {a : Ev} {D : Ends} {σ : L2.St} {H : Hp} (h : kS K (sSet i a) D σ H) : tAsg (kE K a) (gName i) D σ H := by
  obtain ⟨G, H0, δ, o, δ', eK, R, e, q⟩ := h
  simp only [sSet, Option.bind_eq_some_iff, Option.map_eq_some_iff] at e
  obtain ⟨⟨r, δ1⟩, e1, δ2, e2, e3⟩ := e
  cases e3
  refine ⟨G, H0, δ, r, δ1, eK, R, e1, fun v A H1 R1 s1 k => ?_⟩
  exact q _ A H1 (R1.store k e2) s1
theorem xs_set {i : Nat} {x : Str} {a : Ev} {pos' : Pos} (hN : X.N.Nodup) (hi : X.N[i]? = some x) (hx : Loc X.env.scope x) (h : XV X e a) (hs : swapsWith e (some (.Name x pos')) pos.line X.env = pure false := by rfl)
    (hf : X.fn x = true ∨ X.env.scope.names.lookup x = some .local := by first | exact .inl rfl | exact .inr rfl | assumption) : XS X (.Assign [.Name x pos'] e pos) (sSet i a) := (ps_set hN hi hx h hs hf).weak fun _ _ _ h => set_read h
/-- a, b = e -/
theorem xs_unp {es : List Expr} {n : Nat} {t : TGs} {is : List Nat} {a : Ev} {j : Nat} {tp : Pos} (hg : PG X (.Tuple es j tp) (gTup X.K n t)) (hn : n = is.length) (gs : GSs X.K t is) (h : XV X e a) (hs : swapsWithSole [.Tuple es j tp] e pos.line X.env = pure false := by rfl) (hw : swappedStores [.Tuple es j tp] e X.env = pure none := by rfl)
    (h1 : (assignEach [.Tuple es j tp] X.env).map (·.2) = [assign (.Tuple es j tp) X.env] := by rfl) : XS X (.Assign [.Tuple es j tp] e pos) (sUnp is a) := (ps_asg h hg hs hw h1).weak fun D σ H ⟨G, H0, δ, o, δ', eK, R, e, q⟩ => by
  simp only [sUnp, Option.bind_eq_some_iff] at e
  obtain ⟨⟨r, δ1⟩, e1, e2⟩ := e
  refine ⟨G, H0, δ, r, δ1, eK, R, e1, fun v A H1 R1 s1 k => ?_⟩
  cases r with
  | new ds => cases e2
  | dat d =>
    cases d with
    | tuple ds =>
      simp only [Option.map_eq_some_iff] at e2
      obtain ⟨δ2, e3, e4⟩ := e2
      cases e4
      exact gs_tup hn gs G A H1 δ1 _ σ v _ eK R1 k e3 _ fun τ R2 _ => q τ A H1 R2 s1
    | _ => cases e2
/-- x.append(e) -/
theorem withOwn_at {G : Gx} {A H : Hp} {δ δ' : Env} {σ : L2.St} {i : Nat} {k : List D → Option (List D)} (R : Rl G A H δ σ) (h : withOwn δ i k = some δ') :
    ∃ p xs vs ys, σ[i]? = some (some (.ref p)) ∧ H p = some (.lst vs) ∧ RelAll G.K A vs xs ∧ k xs = some ys ∧ ∀ ws, RelAll G.K A ws ys → Rl G A (upd H p (.lst ws)) δ' σ := by
  unfold withOwn at h
  cases es : δ[i]? with
  | none =>
    rw [es] at h
    cases h
  | some s =>
    rw [es] at h
    have sj := R.slot i s es
    cases s with
    | own xs =>
      simp only [Option.map_eq_some_iff] at h
      obtain ⟨ys, e1, rfl⟩ := h
      obtain ⟨p, vs, x1, x2, x3, x4, x5⟩ := sj
      exact ⟨p, xs, vs, ys, x1, x2, x3, e1, fun ws hw => R.put es rfl x1 hw (.inl ⟨rfl, xs, rfl⟩)⟩
    | prm xs =>
      simp only [Option.map_eq_some_iff] at h
      obtain ⟨ys, e1, rfl⟩ := h
      obtain ⟨p, vs, x1, x0, x2, x3, x4⟩ := sj
      exact ⟨p, xs, vs, ys, x1, x2, x3, e1, fun ws hw => R.put es rfl x1 hw (.inr ⟨rfl, xs, rfl⟩)⟩
    | _ => cases h
/-- the slot's list as it stands before the arguments -/
theorem own_ref {G : Gx} {A H : Hp} {δ : Env} {σ : L2.St} {i : Nat} (R : Rl G A H δ σ) (h : ownAt δ i = true) : ∃ p vs, σ[i]? = some (some (.ref p)) ∧ H p = some (.lst vs) := by
  unfold ownAt at h
  cases es : δ[i]? with
  | none =>
    rw [es] at h
    cases h
  | some s =>
    rw [es] at h
    have sj := R.slot i s es
    cases s with
    | own ds =>
      obtain ⟨p, vs, h1, h2, _⟩ := sj
      exact ⟨p, vs, h1, h2⟩
    | prm ds =>
      obtain ⟨p, vs, h1, _, h2, _⟩ := sj
      exact ⟨p, vs, h1, h2⟩
    | _ => cases h
theorem xs_app {i : Nat} {y : Str} {py ap cp : Pos} {a : Ev} (hv : PE X (.Name y py) (tVar i)) (h : XV X e a)
    (hs : starEach [e] X.env = (false, eval e X.env) :: starEach [] X.env := by rfl)
    (hbase : attributeBase (.Name y py) "append" X.env (eval (.Name y py) X.env) = eval (.Name y py) X.env := by rfl)
    (hfew : ((backTo cp (starEach [e] X.env)).all (fun x => !x.1) && (backToKw cp (keywordEach [] X.env)).all (fun x => x.1.isSome)
      && decide ([e].length + ([] : List Keyword).length + (if ([] : List Keyword).isEmpty then 0 else 1) < 30)) = true := by rfl)
    (hline : (ap.endLine == cp.line) = true := by rfl) (hplain : (backTo cp (starEach [] X.env)).any (·.1) = false := by rfl) (hsw : swapsWith (.Call (.Attribute (.Name y py) "append" ap) [e] [] cp) none pos.line X.env = pure false := by rfl) :
    XS X (.Expr (.Call (.Attribute (.Name y py) "append" ap) [e] [] cp) pos) (sApp i a) :=
  (ps_expr (pe_bm PySem.F.plainAttrs_list PySem.F.slot_list_append PySem.F.type_list_append mt_append hv (pa_cons h pa_nil hs) hbase hfew hline hs hplain) hsw).weak fun D σ H ⟨G, H0, δ, o, δ', eK, R, e, q⟩ => by
    simp only [sApp, Option.bind_eq_some_iff, Option.map_eq_some_iff] at e
    obtain ⟨⟨r, δ1⟩, e1, δ2, e2, e3⟩ := e
    cases e3
    split at e1
    · rename_i ho
      obtain ⟨p, vs, hp, hl⟩ := own_ref R ho
      refine ⟨.ref p, hp, .inl ⟨rfl, vs, SqL.of hl⟩, G, H0, δ, r, δ1, eK, R, e1, fun v A H1 R1 s1 k => ?_⟩
      obtain ⟨A2, R2, s2, k2⟩ := R1.toD k
      obtain ⟨p', xs, ws, ys, x1, x2, x3, x4, x5⟩ := withOwn_at R2 e2
      rw [hp] at x1
      cases x1
      split at x4
      · rename_i hlen
        cases x4
        refine ⟨p, ws, v, rfl, rfl, x2, Nat.lt_of_lt_of_le (by rw [x3.length]; exact hlen) (line_le (Nat.le_refl _)), ?_⟩
        exact q σ A2 _ (x5 _ (x3.append (.cons k2 .nil))) (s1.trans s2)
      · cases x4
    · cases e1
/-- x.pop() -/
theorem xs_pop {i : Nat} {y : Str} {py ap cp : Pos} (hv : PE X (.Name y py) (tVar i))
    (hbase : attributeBase (.Name y py) "pop" X.env (eval (.Name y py) X.env) = eval (.Name y py) X.env := by rfl)
    (hline : (ap.endLine == cp.line) = true := by rfl) (hsw : swapsWith (.Call (.Attribute (.Name y py) "pop" ap) [] [] cp) none pos.line X.env = pure false := by rfl) :
    XS X (.Expr (.Call (.Attribute (.Name y py) "pop" ap) [] [] cp) pos) (sPop i) :=
  (ps_expr (pe_bm0 PySem.F.plainAttrs_list PySem.F.slot_list_pop PySem.F.type_list_pop mt_pop hv hbase hline) hsw).weak fun D σ H ⟨G, H0, δ, o, δ', eK, R, e, q⟩ => by
    simp only [sPop, Option.map_eq_some_iff] at e
    obtain ⟨δ2, e2, e3⟩ := e
    cases e3
    obtain ⟨p', xs, ws, ys, x1, x2, x3, x4, x5⟩ := withOwn_at R e2
    split at x4
    · cases x4
    · rename_i hne
      cases x4
      have hw : ∃ y, ws[ws.length - 1]? = some y := by
        have : 0 < ws.length := by
          rw [x3.length]
          cases xs with
          | nil => simp at hne
          | cons _ _ => simp
        exact ⟨ws[ws.length - 1]'(by omega), List.getElem?_eq_getElem (by omega)⟩
      obtain ⟨y, hy⟩ := hw
      refine ⟨.ref p', x1, .inl ⟨rfl, ws, SqL.of x2⟩, p', ws, y, rfl, rfl, x2, hy, ?_⟩
      exact q σ H0 _ (x5 _ x3.dropLast) (Sub.refl _)
/-- x[i] = e -/
theorem ixN_eq (n : Nat) (i : Int) : IP.ixN n i = L2.ixN n i := rfl
theorem xs_setIx {i : Nat} {y : Str} {py tp : Pos} {ie : Expr} {f g : Eo} (hv : PE X (.Name y py) (tVar i)) (hi : XO X ie g) (h : XO X e f)
    (ha : ∀ v, assign (.Subscript (.Name y py) ie tp) X.env v = (do
      let ov ← holding [v] (eval (.Name y py) X.env)
      let iv ← holding [v, ov] (eval ie X.env)
      standAt tp
      holding [v, ov, iv] (setItem ov iv v)
      release [v, ov, iv] []) := by intro _; rfl)
    (hs : swapsWithSole [.Subscript (.Name y py) ie tp] e pos.line X.env = pure false := by rfl) (hw : swappedStores [.Subscript (.Name y py) ie tp] e X.env = pure none := by rfl)
    (h1 : (assignEach [.Subscript (.Name y py) ie tp] X.env).map (·.2) = [assign (.Subscript (.Name y py) ie tp) X.env] := by rfl) :
    XS X (.Assign [.Subscript (.Name y py) ie tp] e pos) (sSetIx i g f) :=
  (ps_asg h (pg_sub hv hi set_list ha) hs hw h1).weak fun D σ H ⟨G, H0, δ, o, δ', eK, R, e, q⟩ => by
    simp only [sSetIx, Option.bind_eq_some_iff] at e
    obtain ⟨⟨o1, δ1⟩, e1, ⟨o2, δ2⟩, e2, e3⟩ := e
    refine ⟨G, H0, δ, o1, δ1, eK, R, e1, fun v A H1 R1 s1 k1 => ?_⟩
    split at e2
    · rename_i ho
      obtain ⟨p, vs, hp, hl⟩ := own_ref R1 ho
      refine ⟨.ref p, hp, G, A, δ1, o2, δ2, eK, R1, e2, fun w A2 H2 R2 s2 k2 => ?_⟩
      cases o1 with
      | «at» _ => cases e3
      | val d =>
        cases o2 with
        | «at» _ => cases e3
        | val d2 =>
          cases d2 with
          | int k =>
            simp only [Option.map_eq_some_iff] at e3
            obtain ⟨δ3, e4, e5⟩ := e3
            cases e5
            cases k2
            obtain ⟨p', xs, ws, ys, x1, x2, x3, x4, x5⟩ := withOwn_at R2 e4
            rw [hp] at x1
            cases x1
            simp only [Option.map_eq_some_iff] at x4
            obtain ⟨j, x6, x7⟩ := x4
            subst x7
            refine ⟨p, ws, k, j, rfl, rfl, x2, by rw [x3.length]; exact x6, ?_⟩
            exact q σ A2 _ (x5 _ (RelAll.set (Rel.sub s2 k1) j x3)) (s1.trans s2)
          | _ => cases e3
    · cases e2
/-- x op= e, of ints -/
theorem xs_aug {i : Nat} {x : Str} {op : Operator} {b : Int → Int → Int} {f : Eo} {pos' : Pos} (hN : X.N.Nodup) (hi : X.N[i]? = some x) (hx : Loc X.env.scope x) (h : XO X e f) (ho : PIp X op (ipI b))
    (hf : X.fn x = true ∨ X.env.scope.names.lookup x = some .local := by first | exact .inl rfl | exact .inr rfl | assumption) : XS X (.AugAssign (.Name x pos') op e pos) (sAug i b f) :=
  (ps_aug hN hi hx h ho hf).weak fun D σ H ⟨G, H0, δ, o, δ', eK, R, e, q⟩ => by
    unfold sAug at e
    cases es : δ[i]? with
    | none =>
      rw [es] at e
      cases e
    | some s =>
      rw [es] at e
      have sj := R.slot i s es
      cases s with
      | dat d =>
        cases d with
        | int a =>
          simp only [Option.bind_eq_some_iff] at e
          obtain ⟨⟨o1, δ1⟩, e1, e2⟩ := e
          obtain ⟨v, x1, x2⟩ := sj
          cases x2
          refine ⟨_, x1, G, H0, δ, o1, δ1, eK, R, e1, fun w A H1 R1 s1 k1 => ?_⟩
          cases o1 with
          | «at» _ => cases e2
          | val d =>
            cases d with
            | int c =>
              simp only [Option.map_eq_some_iff] at e2
              obtain ⟨δ2, e3, e4⟩ := e2
              cases e4
              cases k1
              exact ⟨a, c, rfl, rfl, q _ A H1 (R1.store (r := .dat (.int (b a c))) (v := .int (b a c)) (.int _) e3) s1⟩
            | _ => cases e2
        | _ => cases e
      | _ => cases e
end
end IP
end
section
set_option Elab.async false
set_option linter.all false
set_option maxRecDepth 100000
set_option maxHeartbeats 2000000
namespace IP
open PySem L2
/-! ### a new list that nobody names yet stays as it is: it is taken for a thing of the entry -/
section
variable {G : Gx} {A B H H' : Hp} {δ δ' : Env} {σ : L2.St} {p : Addr} {vs : List V}
def Gx.with (G : Gx) (p : Addr) (vs : List V) : Gx := { G with H := upd G.H p (.lst vs) }
theorem Rl.hold (R : Rl G A H δ σ) (h1 : H p = some (.lst vs)) (h2 : A p = none) (h3 : G.H p = none) (h4 : ∀ i, ¬ Holds δ σ i p) : Rl (G.with p vs) A H δ σ := by
  refine ⟨R.len, R.sub, R.up, fun a o e h => ?_, fun a o e => ?_, fun i s e => ?_, R.inj, R.prs⟩
  · have e' : upd G.H p (.lst vs) a = some o := e
    by_cases ha : a = p
    · subst ha
      rw [upd_same] at e'
      cases e'
      exact h1
    · rw [upd_ne ha] at e'
      exact R.keep a o e' h
  · rcases R.fro a o e with h | h
    · exact .inl h
    · refine .inr ?_
      have ha : a ≠ p := fun z => by
        rw [z, h2] at e
        cases e
      show upd G.H p (.lst vs) a = none
      rw [upd_ne ha]
      exact h
  · have sj := R.slot i s e
    cases s with
    | own ds =>
      obtain ⟨q, ws, e1, e2, e3, e4, e5⟩ := sj
      refine ⟨q, ws, e1, e2, e3, e4, ?_⟩
      have hq : q ≠ p := fun z => by
        subst z
        exact h4 i ⟨⟨_, e, rfl⟩, e1⟩
      show upd G.H p (.lst vs) q = none
      rw [upd_ne hq]
      exact e5
    | _ => exact sj
structure Held (G : Gx) (A H : Hp) (δ : Env) (σ : L2.St) (p : Addr) (vs : List V) : Prop where
  at_ : H p = some (.lst vs)
  a : A p = none
  g : G.H p = none
  h : ∀ i, ¬ Holds δ σ i p
/-- and is found again -/
theorem Rl.found (R0 : Rl G A H δ σ) (h : Held G A H δ σ p vs) {σ' : L2.St} (R : Rl (G.with p vs) B H' δ' σ') : Rl G B H' δ' σ' ∧ Held G B H' δ' σ' p vs := by
  have hp : H' p = some (.lst vs) := R.keep p (.lst vs) upd_same fun z hz e => by
    obtain ⟨ds, e1, e2⟩ := R0.prs z hz
    rw [e] at e2
    exact h.h z.1 ⟨⟨_, e1, rfl⟩, e2⟩
  have hB : B p = none := by
    cases q : B p with
    | none => rfl
    | some o =>
      rcases R.fro p o q with ⟨u, hu⟩ | hu
      · have := R0.up p u hu
        rw [h.a] at this
        cases this
      · have hu' : upd G.H p (.lst vs) p = none := hu
        rw [upd_same] at hu'
        cases hu'
  refine ⟨⟨R.len, R.sub, R.up, fun a o e hh => R.keep a o ?_ hh, fun a o e => ?_, fun i s e => ?_, R.inj, R.prs⟩, hp, hB, h.g, fun i hi => ?_⟩
  · have ha : a ≠ p := fun z => by
      rw [z, h.g] at e
      cases e
    show upd G.H p (.lst vs) a = some o
    rw [upd_ne ha]
    exact e
  · rcases R.fro a o e with z | z
    · exact .inl z
    · refine .inr ?_
      have z' : upd G.H p (.lst vs) a = none := z
      by_cases ha : a = p
      · subst ha
        exact h.g
      · rw [upd_ne ha] at z'
        exact z'
  · have sj := R.slot i s e
    cases s with
    | own ds =>
      obtain ⟨q, ws, e1, e2, e3, e4, e5⟩ := sj
      refine ⟨q, ws, e1, e2, e3, e4, ?_⟩
      have e5' : upd G.H p (.lst vs) q = none := e5
      by_cases hq : q = p
      · subst hq
        exact h.g
      · rw [upd_ne hq] at e5'
        exact e5'
    | _ => exact sj
  · obtain ⟨⟨s, e1, e2⟩, e3⟩ := hi
    have sj := R.slot i s e1
    cases s with
    | own ds =>
      obtain ⟨q, ws, x1, _, _, _, x5⟩ := sj
      rw [e3] at x1
      cases x1
      have x5' : upd G.H p (.lst vs) p = none := x5
      rw [upd_same] at x5'
      cases x5'
    | prm ds =>
      obtain ⟨q, ws, x1, x0, _⟩ := sj
      rw [e3] at x1
      cases x1
      obtain ⟨es, y1, y2⟩ := R0.prs _ x0
      exact h.h i ⟨⟨_, y1, rfl⟩, y2⟩
    | _ => cases e2
end

/-! ### several values at once -/
def Pend (G : Gx) (A H : Hp) (δ : Env) (σ : L2.St) : List Res → List V → Prop
  | [], [] => True
  | r :: rs, v :: vs => ResOk G A H δ σ r v ∧ Pend G A H δ σ rs vs ∧ (∀ ds, r = .new ds → ∀ p, v = .ref p → ∀ r' v', (r', v') ∈ rs.zip vs → ∀ es, r' = .new es → v' ≠ .ref p)
  | _, _ => False
def kR (K : PySem.W.Frag) (fs : List Ev) : TA := fun σ H Q => ∃ G H0 δ rs δ', G.K = K ∧ Rl G H0 H δ σ ∧ pEvs fs δ = some (rs, δ') ∧ ∀ vs H0' H', Rl G H0' H' δ' σ → Sub H0 H0' → Pend G H0' H' δ' σ rs vs → Q vs H'
section
variable {X : Cx} {K : PySem.W.Frag} {a : Expr} {es : List Expr} {f : Ev} {fs : List Ev} {pos : Pos}
theorem xr_nil : PA X [] (kR X.K []) := pa_nil.weak fun σ H Q ⟨G, H0, δ, res, δ', eK, R, e, q⟩ => by
  cases e
  exact q [] _ _ R (Sub.refl _) trivial
theorem pend_found {G : Gx} {B H' : Hp} {δ' : Env} {σ : L2.St} {p : Addr} {vs : List V} (Rb : Rl G B H' δ' σ) : ∀ {rs : List Res} {us : List V}, Pend (G.with p vs) B H' δ' σ rs us → G.H p = none → Pend G B H' δ' σ rs us ∧ ∀ r' v', (r', v') ∈ rs.zip us → ∀ es, r' = .new es → v' ≠ .ref p
  | [], [], _, _ => ⟨trivial, fun _ _ h => by simp at h⟩
  | r :: rs, u :: us, ⟨h1, h2, h3⟩, hg => by
    obtain ⟨i1, i2⟩ := pend_found Rb h2 hg
    have hr : ResOk G B H' δ' σ r u ∧ ∀ es, r = .new es → u ≠ .ref p := by
      cases r with
      | dat d => exact ⟨h1, fun _ z => nomatch z⟩
      | new ds =>
        obtain ⟨q, ws, x1, x2, x3, x4, x5, x6⟩ := h1
        have x5' : upd G.H p (.lst vs) q = none := x5
        have hq : q ≠ p := fun z => by
          rw [z, upd_same] at x5'
          cases x5'
        rw [upd_ne hq] at x5'
        exact ⟨⟨q, ws, x1, x2, x3, x4, x5', x6⟩, fun _ _ z => by
          rw [x1] at z
          cases z
          exact hq rfl⟩
    refine ⟨⟨hr.1, i1, h3⟩, fun r' v' hm es he => ?_⟩
    rw [List.zip_cons_cons] at hm
    rcases List.mem_cons.mp hm with e | e
    · cases e
      exact hr.2 es he
    · exact i2 r' v' e es he
theorem xr_cons (ha : XV X a f) (hb : PA X es (kR X.K fs)) (hs : starEach (a :: es) X.env = (false, eval a X.env) :: starEach es X.env := by rfl) : PA X (a :: es) (kR X.K (f :: fs)) := (pa_cons ha hb hs).weak fun σ H Q ⟨G, H0, δ, res, δ', eK, R, e, q⟩ => by
  simp only [pEvs, Option.bind_eq_some_iff, Option.map_eq_some_iff] at e
  obtain ⟨⟨r1, δ1⟩, e1, ⟨rs, δ2⟩, e2, e3⟩ := e
  cases e3
  refine ⟨G, H0, δ, r1, δ1, eK, R, e1, fun v A H1 R1 s1 k1 => ?_⟩
  cases r1 with
  | dat d => exact ⟨G, A, δ1, rs, δ2, eK, R1, e2, fun vs B H2 R2 s2 k2 => q _ B H2 R2 (s1.trans s2) ⟨Rel.sub s2 k1, k2, fun _ z => nomatch z⟩⟩
  | new ds =>
    obtain ⟨p, ws, rfl, x2, x3, x4, x5, x6⟩ := k1
    refine ⟨G.with p ws, A, δ1, rs, δ2, eK, R1.hold x2 x4 x5 x6, e2, fun vs B H2 R2 s2 k2 => ?_⟩
    obtain ⟨R3, hh⟩ := R1.found ⟨x2, x4, x5, x6⟩ R2
    obtain ⟨k3, k4⟩ := pend_found R3 k2 x5
    exact q _ B H2 R3 (s1.trans s2) ⟨⟨p, ws, rfl, hh.at_, x3.sub s2, hh.a, hh.g, hh.h⟩, k3, fun _ _ p' e r' v' hm es he => by
      cases e
      exact k4 r' v' hm es he⟩
def setAll (σ : L2.St) : List Nat → List V → L2.St
  | i :: is, v :: vs => setAll (σ.set i (some v)) is vs
  | _, _ => σ
theorem pend_mono {G : Gx} {A H : Hp} {δ δ' : Env} {σ σ' : L2.St} : ∀ {rs : List Res} {vs : List V}, Pend G A H δ σ rs vs → (∀ r v, (r, v) ∈ rs.zip vs → ∀ ds, r = .new ds → ∀ p, v = .ref p → ∀ i, Holds δ' σ' i p → Holds δ σ i p) → Pend G A H δ' σ' rs vs
  | [], [], _, _ => trivial
  | r :: rs, v :: vs, ⟨h1, h2, h3⟩, k => by
    refine ⟨?_, pend_mono h2 (fun r' v' hm => k r' v' (by rw [List.zip_cons_cons]; exact List.mem_cons_of_mem _ hm)), h3⟩
    cases r with
    | dat d => exact h1
    | new ds =>
      obtain ⟨q, ws, x1, x2, x3, x4, x5, x6⟩ := h1
      exact ⟨q, ws, x1, x2, x3, x4, x5, fun i hi => x6 i (k _ _ (by rw [List.zip_cons_cons]; exact List.mem_cons_self) ds rfl q x1 i hi)⟩
theorem Rl.storeAll {G : Gx} {A H : Hp} {δ' : Env} : ∀ {is : List Nat} {rs : List Res} {vs : List V} {δ : Env} {σ : L2.St}, Rl G A H δ σ → Pend G A H δ σ rs vs → setRs δ is rs = some δ' → Rl G A H δ' (setAll σ is vs)
  | [], [], [], _, _, R, _, e => by
    cases e
    exact R
  | [], [], _ :: _, _, _, _, h, _ => h.elim
  | [], _ :: _, _, _, _, _, _, e => by cases e
  | _ :: _, [], _, _, _, _, _, e => by cases e
  | _ :: _, _ :: _, [], _, _, _, h, _ => h.elim
  | i :: is, r :: rs, v :: vs, δ, σ, R, ⟨h1, h2, h3⟩, e => by
    simp only [setRs, Option.bind_eq_some_iff] at e
    obtain ⟨δ1, e1, e2⟩ := e
    have R1 := R.store h1 e1
    show Rl G A H δ' (setAll (σ.set i (some v)) is vs)
    refine Rl.storeAll R1 (pend_mono h2 fun r' v' hm ds he p hp j hj => ?_) e2
    obtain ⟨⟨u, u1, u2⟩, u3⟩ := hj
    have hlt := setSlot_lt e1
    have ed : δ1 = δ.set i (slotOf r) := by
      unfold setSlot at e1
      split at e1
      · cases e1
      · cases e1
        rfl
      · cases e1
    by_cases hij : i = j
    · subst hij
      rw [List.getElem?_set_self (by rw [R.len]; exact hlt)] at u3
      cases u3
      rw [ed, List.getElem?_set_self hlt] at u1
      cases u1
      cases r with
      | dat d => cases u2
      | new es => exact absurd hp (h3 es rfl p rfl r' v' hm ds he)
    · rw [List.getElem?_set_ne hij] at u3
      rw [ed, List.getElem?_set_ne hij] at u1
      exact ⟨⟨u, u1, u2⟩, u3⟩
theorem pend_length {G : Gx} {A H : Hp} {δ : Env} {σ : L2.St} : ∀ {rs : List Res} {vs : List V}, Pend G A H δ σ rs vs → rs.length = vs.length
  | [], [], _ => rfl
  | _ :: _, _ :: _, ⟨_, h, _⟩ => by rw [List.length_cons, List.length_cons, pend_length h]
  | [], _ :: _, h => h.elim
  | _ :: _, [], h => h.elim
theorem pEvs_length : ∀ {fs : List Ev} {δ δ' : Env} {rs : List Res}, pEvs fs δ = some (rs, δ') → rs.length = fs.length
  | [], _, _, _, e => by
    cases e
    rfl
  | f :: fs, _, _, _, e => by
    simp only [pEvs, Option.bind_eq_some_iff, Option.map_eq_some_iff] at e
    obtain ⟨_, _, ⟨_, _⟩, e2, e3⟩ := e
    cases e3
    rw [List.length_cons, List.length_cons, pEvs_length e2]
/-- a, b = e1, e2 -/
theorem xs_par {i j : Nat} {x y : Str} {b : Expr} {g : Ev} {px py pt : Pos} {kt k2 : Nat} {pt2 : Pos} (hc : X.calm = true) (hN : X.N.Nodup) (hi : X.N[i]? = some x) (hj : X.N[j]? = some y) (hij : i ≠ j)
    (hx : X.env.scope.names.lookup x = some .local) (hy : X.env.scope.names.lookup y = some .local) (ha : XV X a f) (hb : XV X b g)
    (hw : swappedStores [.Tuple [.Name x px, .Name y py] kt pt] (.Tuple [a, b] k2 pt2) X.env = pure (some [x, y]))
    (hs : swapsWithSole [.Tuple [.Name x px, .Name y py] kt pt] (.Tuple [a, b] k2 pt2) pos.line X.env = pure false := by rfl) (hs1 : starEach [a, b] X.env = (false, eval a X.env) :: starEach [b] X.env := by rfl) (hs2 : starEach [b] X.env = (false, eval b X.env) :: starEach [] X.env := by rfl) :
    XS X (.Assign [.Tuple [.Name x px, .Name y py] kt pt] (.Tuple [a, b] k2 pt2) pos) (sPar [i, j] [f, g]) :=
  (ps_par hc hN hi hj hij hx hy (xr_cons ha (xr_cons hb xr_nil hs2) hs1) hw hs).weak fun D σ H ⟨G, H0, δ, o, δ', eK, R, e, q⟩ => by
    simp only [sPar, Option.bind_eq_some_iff, Option.map_eq_some_iff] at e
    obtain ⟨⟨rs, δ1⟩, e1, δ2, e2, e3⟩ := e
    cases e3
    refine ⟨G, H0, δ, rs, δ1, eK, R, e1, fun vs A H1 R1 s1 k => ?_⟩
    have hl := pend_length k
    rw [pEvs_length e1] at hl
    match vs, hl, k with
    | [v, w], _, k => exact ⟨v, w, rfl, q _ A H1 (Rl.storeAll R1 k e2) s1⟩
theorem xs_par3 {i j l : Nat} {x y z : Str} {b c : Expr} {g h : Ev} {px py pz pt : Pos} {kt k2 : Nat} {pt2 : Pos} (hc : X.calm = true) (hN : X.N.Nodup) (hi : X.N[i]? = some x) (hj : X.N[j]? = some y) (hl : X.N[l]? = some z) (hij : i ≠ j) (hil : i ≠ l) (hjl : j ≠ l)
    (hx : X.env.scope.names.lookup x = some .local) (hy : X.env.scope.names.lookup y = some .local) (hz : X.env.scope.names.lookup z = some .local) (ha : XV X a f) (hb : XV X b g) (hcc : XV X c h)
    (hw : swappedStores [.Tuple [.Name x px, .Name y py, .Name z pz] kt pt] (.Tuple [a, b, c] k2 pt2) X.env = pure (some [x, y, z]))
    (hs : swapsWithSole [.Tuple [.Name x px, .Name y py, .Name z pz] kt pt] (.Tuple [a, b, c] k2 pt2) pos.line X.env = pure false := by rfl) (hs1 : starEach [a, b, c] X.env = (false, eval a X.env) :: starEach [b, c] X.env := by rfl) (hs2 : starEach [b, c] X.env = (false, eval b X.env) :: starEach [c] X.env := by rfl) (hs3 : starEach [c] X.env = (false, eval c X.env) :: starEach [] X.env := by rfl) :
    XS X (.Assign [.Tuple [.Name x px, .Name y py, .Name z pz] kt pt] (.Tuple [a, b, c] k2 pt2) pos) (sPar [i, j, l] [f, g, h]) :=
  (ps_par3 hc hN hi hj hl hij hil hjl hx hy hz (xr_cons ha (xr_cons hb (xr_cons hcc xr_nil hs3) hs2) hs1) hw hs).weak fun D σ H ⟨G, H0, δ, o, δ', eK, R, e, q⟩ => by
    simp only [sPar, Option.bind_eq_some_iff, Option.map_eq_some_iff] at e
    obtain ⟨⟨rs, δ1⟩, e1, δ2, e2, e3⟩ := e
    cases e3
    refine ⟨G, H0, δ, rs, δ1, eK, R, e1, fun vs A H1 R1 s1 k => ?_⟩
    have hl := pend_length k
    rw [pEvs_length e1] at hl
    match vs, hl, k with
    | [u, v, w], _, k => exact ⟨u, v, w, rfl, q _ A H1 (Rl.storeAll R1 k e2) s1⟩
end

/-! ### comprehensions -/
section
variable {G : Gx} {A H : Hp} {δ δ' δ0 : Env} {σ : L2.St}
theorem wipe_other {σ : L2.St} {i : Nat} : ∀ {vs : List Nat}, i ∉ vs → (wipe σ vs)[i]? = σ[i]?
  | [], _ => rfl
  | v :: vs, h => by
    simp only [List.mem_cons, not_or] at h
    unfold wipe
    rw [List.getElem?_set_ne (fun e => h.1 e.symm), wipe_other h.2]
theorem unAll_spec : ∀ {vs : List Nat} {δ δ' : Env}, unAll vs δ = some δ' → δ'.length = δ.length ∧ (∀ i, i ∈ vs → δ'[i]? = some .un) ∧ (∀ i, i ∉ vs → δ'[i]? = δ[i]?) ∧ (∀ i, i ∈ vs → δ[i]? = some .un ∨ ∃ d, δ[i]? = some (.dat d))
  | [], δ, δ', e => by
    cases e
    simp
  | v :: vs, δ, δ', e => by
    unfold unAll at e
    cases es : δ[v]? with
    | none =>
      rw [es] at e
      cases e
    | some s =>
      rw [es] at e
      have hlt : v < δ.length := (List.getElem?_eq_some_iff.mp es).1
      cases s with
      | un =>
        obtain ⟨h1, h2, h3, h4⟩ := unAll_spec e
        refine ⟨h1, fun i hi => ?_, fun i hi => h3 i fun z => hi (List.mem_cons_of_mem _ z), fun i hi => ?_⟩
        · rcases List.mem_cons.mp hi with z | z
          · subst z
            by_cases hv : i ∈ vs
            · exact h2 i hv
            · rw [h3 i hv]
              exact es
          · exact h2 i z
        · rcases List.mem_cons.mp hi with z | z
          · subst z
            exact .inl es
          · exact h4 i z
      | dat d =>
        obtain ⟨h1, h2, h3, h4⟩ := unAll_spec e
        refine ⟨by rw [h1, List.length_set], fun i hi => ?_, fun i hi => ?_, fun i hi => ?_⟩
        · rcases List.mem_cons.mp hi with z | z
          · subst z
            by_cases hv : i ∈ vs
            · exact h2 i hv
            · rw [h3 i hv]
              exact List.getElem?_set_self hlt
          · exact h2 i z
        · simp only [List.mem_cons, not_or] at hi
          rw [h3 i hi.2, List.getElem?_set_ne (fun z => hi.1 z.symm)]
        · rcases List.mem_cons.mp hi with z | z
          · subst z
            exact .inr ⟨d, es⟩
          · rcases h4 i z with h | ⟨d', h⟩
            · by_cases hvi : v = i
              · subst hvi
                exact .inr ⟨d, es⟩
              · rw [List.getElem?_set_ne hvi] at h
                exact .inl h
            · by_cases hvi : v = i
              · subst hvi
                exact .inr ⟨d, es⟩
              · rw [List.getElem?_set_ne hvi] at h
                exact .inr ⟨d', h⟩
      | _ => cases e
/-- names forgotten -/
theorem Rl.wipe {vs : List Nat} (R : Rl G A H δ σ) (e : unAll vs δ = some δ') : Rl G A H δ' (L2.wipe σ vs) := by
  obtain ⟨h1, h2, h3, h4⟩ := unAll_spec e
  have back : ∀ j q, Holds δ' (L2.wipe σ vs) j q → Holds δ σ j q := fun j q ⟨⟨s, s1, s2⟩, s3⟩ => by
    by_cases hj : j ∈ vs
    · rw [h2 j hj] at s1
      cases s1
      cases s2
    · rw [h3 j hj] at s1
      rw [wipe_other hj] at s3
      exact ⟨⟨s, s1, s2⟩, s3⟩
  refine ⟨by rw [wipe_length, h1]; exact R.len, R.sub, R.up, R.keep, R.fro, fun i s es => ?_, fun i j p a b => R.inj i j p (back _ _ a) (back _ _ b), fun z hz => ?_⟩
  · by_cases hi : i ∈ vs
    · rw [h2 i hi] at es
      cases es
      trivial
    · rw [h3 i hi] at es
      have sj := R.slot i s es
      cases s with
      | un => trivial
      | dat d =>
        obtain ⟨v, e1, r⟩ := sj
        exact ⟨v, by rw [wipe_other hi]; exact e1, r⟩
      | own ds =>
        obtain ⟨q, ws, e1, r⟩ := sj
        exact ⟨q, ws, by rw [wipe_other hi]; exact e1, r⟩
      | prm ds =>
        obtain ⟨q, ws, e1, r⟩ := sj
        exact ⟨q, ws, by rw [wipe_other hi]; exact e1, r⟩
  · obtain ⟨ds, e1, e2⟩ := R.prs z hz
    have hn : z.1 ∉ vs := fun h => by
      rcases h4 _ h with q | ⟨d, q⟩
      · rw [q] at e1
        cases e1
      · rw [q] at e1
        cases e1
    exact ⟨ds, by rw [h3 _ hn]; exact e1, by rw [wipe_other hn]; exact e2⟩
theorem backAll_spec : ∀ {vs : List Nat} {δ : Env}, δ.length = δ0.length → (backAll δ0 vs δ).length = δ.length ∧ (∀ i, i ∈ vs → (backAll δ0 vs δ)[i]? = δ0[i]?) ∧ (∀ i, i ∉ vs → (backAll δ0 vs δ)[i]? = δ[i]?)
  | [], δ, _ => by simp [backAll]
  | v :: vs, δ, hl => by
    unfold backAll
    cases es : δ0[v]? with
    | none =>
      obtain ⟨h1, h2, h3⟩ := backAll_spec (vs := vs) (δ := δ) hl
      refine ⟨h1, fun i hi => ?_, fun i hi => h3 i fun z => hi (List.mem_cons_of_mem _ z)⟩
      rcases List.mem_cons.mp hi with z | z
      · subst z
        have n1 : ¬ i < δ0.length := fun z => by
          rw [List.getElem?_eq_getElem z] at es
          cases es
        show (backAll δ0 vs δ)[i]? = δ0[i]?
        rw [es]
        exact List.getElem?_eq_none (by omega)
      · exact h2 i z
    | some s =>
      have hlt : v < δ.length := by
        rw [hl]
        exact (List.getElem?_eq_some_iff.mp es).1
      obtain ⟨h1, h2, h3⟩ := backAll_spec (vs := vs) (δ := δ.set v s) (by rw [List.length_set]; exact hl)
      refine ⟨by rw [h1, List.length_set], fun i hi => ?_, fun i hi => ?_⟩
      · by_cases hv : i ∈ vs
        · exact h2 i hv
        · rcases List.mem_cons.mp hi with z | z
          · subst z
            show (backAll δ0 vs (δ.set i s))[i]? = _
            rw [h3 i hv, List.getElem?_set_self hlt, es]
          · exact absurd z hv
      · simp only [List.mem_cons, not_or] at hi
        show (backAll δ0 vs (δ.set v s))[i]? = _
        rw [h3 i hi.2, List.getElem?_set_ne (fun z => hi.1 z.symm)]
theorem wipe_wipe (σ : L2.St) (vs : List Nat) : L2.wipe (L2.wipe σ vs) vs = L2.wipe σ vs := by
  apply List.ext_getElem?
  intro i
  by_cases hi : i ∈ vs
  · have key : ∀ (τ : L2.St) (vs : List Nat), i ∈ vs → (L2.wipe τ vs)[i]? = τ[i]?.map fun _ => none := by
      intro τ vs
      induction vs with
      | nil => intro h; simp at h
      | cons v vs ih =>
        intro h
        unfold L2.wipe
        by_cases hv : v = i
        · subst hv
          by_cases hl : v < τ.length
          · rw [List.getElem?_set_self (by rw [wipe_length]; exact hl), List.getElem?_eq_getElem hl]
            rfl
          · rw [List.getElem?_eq_none (by rw [List.length_set, wipe_length]; omega), List.getElem?_eq_none (by omega)]
            rfl
        · rw [List.getElem?_set_ne hv]
          rcases List.mem_cons.mp h with z | z
          · exact absurd z.symm hv
          · exact ih z
    rw [key _ _ hi, key _ _ hi]
    cases σ[i]? <;> rfl
  · rw [wipe_other hi]
/-- a held list is written -/
theorem Rl.relay {p : Addr} {vs ws : List V} (R : Rl G A H δ σ) (h1 : H p = some (.lst vs)) (h2 : A p = none) (h3 : G.H p = none) (h4 : ∀ i, ¬ Holds δ σ i p) : Rl G A (upd H p (.lst ws)) δ σ := by
  refine ⟨R.len, fun a o e => ?_, R.up, fun a o e h => ?_, R.fro, fun i s e => ?_, R.inj, R.prs⟩
  · rw [upd_ne (ne_of_none e h2)]
    exact R.sub a o e
  · rw [upd_ne (ne_of_none e h3)]
    exact R.keep a o e h
  · refine (R.slot i s e).mono (Sub.refl _) (fun a us ea hs ha => ?_) (fun _ _ _ h => h)
    have : a ≠ p := fun z => by
      subst z
      exact h4 i ⟨⟨s, e, hs⟩, ha⟩
    rw [upd_ne this]
    exact ea
theorem back_holds {A0 H0 : Hp} {vs : List Nat} {δ1 : Env} (R0 : Rl G A0 H0 δ0 σ) (e0 : unAll vs δ0 = some δ1) (R : Rl G A H δ (L2.wipe σ vs)) : ∀ j q, Holds (backAll δ0 vs δ) σ j q → Holds δ (L2.wipe σ vs) j q := fun j q ⟨⟨u, u1, u2⟩, u3⟩ => by
  obtain ⟨h1, h2, h3, h4⟩ := unAll_spec e0
  have hl : δ.length = δ0.length := by
    have := R.len
    rw [wipe_length, R0.len] at this
    exact this.symm
  obtain ⟨b1, b2, b3⟩ := backAll_spec (vs := vs) hl
  by_cases hj : j ∈ vs
  · rw [b2 j hj] at u1
    rcases h4 j hj with z | ⟨d, z⟩
    · rw [z] at u1
      cases u1
      cases u2
    · rw [z] at u1
      cases u1
      cases u2
  · rw [b3 j hj] at u1
    exact ⟨⟨u, u1, u2⟩, by rw [wipe_other hj]; exact u3⟩
/-- and remembered again -/
theorem Rl.back {A0 H0 : Hp} {vs : List Nat} {δ1 : Env} (R0 : Rl G A0 H0 δ0 σ) (e0 : unAll vs δ0 = some δ1) (s : Sub A0 A) (R : Rl G A H δ (L2.wipe σ vs)) : Rl G A H (backAll δ0 vs δ) σ := by
  obtain ⟨h1, h2, h3, h4⟩ := unAll_spec e0
  have hl : δ.length = δ0.length := by
    have := R.len
    rw [wipe_length, R0.len] at this
    exact this.symm
  obtain ⟨b1, b2, b3⟩ := backAll_spec (vs := vs) hl
  have fwd : ∀ j q, Holds (backAll δ0 vs δ) σ j q → Holds δ (L2.wipe σ vs) j q := fun j q ⟨⟨u, u1, u2⟩, u3⟩ => by
    by_cases hj : j ∈ vs
    · rw [b2 j hj] at u1
      rcases h4 j hj with z | ⟨d, z⟩
      · rw [z] at u1
        cases u1
        cases u2
      · rw [z] at u1
        cases u1
        cases u2
    · rw [b3 j hj] at u1
      exact ⟨⟨u, u1, u2⟩, by rw [wipe_other hj]; exact u3⟩
  refine ⟨by rw [b1, hl]; exact R0.len, R.sub, R.up, R.keep, R.fro, fun i u es => ?_, fun i j p a b => R.inj i j p (fwd _ _ a) (fwd _ _ b), fun z hz => ?_⟩
  · by_cases hi : i ∈ vs
    · rw [b2 i hi] at es
      rcases h4 i hi with z | ⟨d, z⟩
      · rw [z] at es
        cases es
        trivial
      · rw [z] at es
        cases es
        obtain ⟨v, e1, r⟩ := R0.slot i _ z
        exact ⟨v, e1, r.sub s⟩
    · rw [b3 i hi] at es
      have sj := R.slot i u es
      cases u with
      | un => trivial
      | dat d =>
        obtain ⟨v, e1, r⟩ := sj
        exact ⟨v, by rw [wipe_other hi] at e1; exact e1, r⟩
      | own ds =>
        obtain ⟨q, ws, e1, r⟩ := sj
        exact ⟨q, ws, by rw [wipe_other hi] at e1; exact e1, r⟩
      | prm ds =>
        obtain ⟨q, ws, e1, r⟩ := sj
        exact ⟨q, ws, by rw [wipe_other hi] at e1; exact e1, r⟩
  · obtain ⟨ds, e1, e2⟩ := R.prs z hz
    obtain ⟨ds', e3, e4⟩ := R0.prs z hz
    have hn : z.1 ∉ vs := fun h => by
      rcases h4 _ h with q | ⟨d, q⟩
      · rw [q] at e3
        cases e3
      · rw [q] at e3
        cases e3
    exact ⟨ds, by rw [b3 _ hn]; exact e1, e4⟩
end
section
variable {X : Cx} {K : PySem.W.Frag}
/-- the reading of a comprehension -/
theorem lc_read {it : Ei} {g : TG} {t : Tg} {tt : Et} {te : Ev} {vs : List Nat} (gs : GS K g t) (hv : ∀ i ∈ t.slots, i ∈ vs) {σ : L2.St} {H : Hp} {Q : VK} (h : kE K (vLc vs it t tt te) σ H Q) : tLc (kI K it) g (kT K tt) (kE K te) vs σ H Q := by
  obtain ⟨G, H0, δ, res, δ', eK, R, e, q⟩ := h
  simp only [vLc, Option.bind_eq_some_iff] at e
  obtain ⟨⟨⟨xs, ow⟩, δ1⟩, e1, δ2, e2, e3⟩ := e
  dsimp only at e2 e3
  split at e3
  · rename_i hlen
    simp only [Option.map_eq_some_iff] at e3
    obtain ⟨⟨ys, δ3⟩, e4, e5⟩ := e3
    cases e5
    refine ⟨G, H0, δ, xs, ow, δ1, eK, R, e1, fun J A H1 R1 s1 iw => ?_⟩
    intro D hD
    have fr := R1.fresh hD
    have R2 : Rl G A (upd H1 D (.lst [])) δ2 (wipe σ vs) := (R1.laid hD).wipe e2
    have hD2 : Held G A (upd H1 D (.lst [])) δ2 (wipe σ vs) D [] := ⟨upd_same, fr.1, fr.2.1, (by
      intro i hi
      have := ((R1.laid (o := .lst []) hD)).wipe e2
      obtain ⟨⟨s, x1, x2⟩, x3⟩ := hi
      obtain ⟨h1, h2, h3, h4⟩ := unAll_spec e2
      by_cases hj : i ∈ vs
      · rw [h2 i hj] at x1
        cases x1
        cases x2
      · rw [h3 i hj] at x1
        rw [wipe_other hj] at x3
        exact fr.2.2 i ⟨⟨s, x1, x2⟩, x3⟩)⟩
    -- the walked variable, if it is one, is not among the names of the comprehension
    have hk : ∀ {δ : Env} {A H : Hp}, Rl G A H δ (wipe σ vs) → (∀ i, i ∈ vs → δ[i]? = some .un) → still δ xs ow = true → ∀ k, ow = some k → (wipe σ vs)[k]? = σ[k]? := by
      intro δ A H R hun st k ek
      subst ek
      by_cases hj : k ∈ vs
      · simp only [still, hun k hj, slotD] at st
        cases st
      · exact wipe_other hj
    let P : Nat → Hp → Prop := fun i H => ∃ B δ acc accD zs, Rl G B H δ (wipe σ vs) ∧ Sub A B ∧ Held G B H δ (wipe σ vs) D acc ∧ RelAll G.K B acc accD ∧ (∀ i, i ∈ vs → δ[i]? = some .un) ∧ lcGo vs t tt te xs ow (xs.drop i) δ = some (zs, δ3) ∧ ys = accD ++ zs ∧ acc.length ≤ i
    have stl : ∀ {i : Nat} {δ : Env} {zs : List IP.D}, lcGo vs t tt te xs ow (xs.drop i) δ = some (zs, δ3) → still δ xs ow = true := by
      intro i δ zs e
      cases hd : xs.drop i with
      | nil =>
        rw [hd] at e
        unfold lcGo at e
        split at e
        · assumption
        · cases e
      | cons _ _ =>
        rw [hd] at e
        unfold lcGo at e
        split at e
        · assumption
        · cases e
    let GG : Hp → Prop := fun H => ∃ B δ, Rl G B H δ (wipe σ vs) ∧ Sub A B ∧ (∀ i, i ∈ vs → δ[i]? = some .un) ∧ still δ xs ow = true
    have w : Walk J xs.length GG (fun i H x H' => J.yld i H x H') :=
      ⟨fun i H hi ⟨B, δ, R, s, hun, st⟩ => iw.goes i B H δ _ R s (hk R hun st) st hi, fun H ⟨B, δ, R, s, hun, st⟩ => iw.stops B H δ _ R s (hk R hun st) st, fun i H x H' _ _ y => y⟩
    refine lc_it w P ⟨A, δ2, [], [], ys, R2, Sub.refl _, hD2, .nil, (unAll_spec e2).2.1, e4, rfl, Nat.le_refl _⟩ ?_ ?_ ?_
    · rintro i H _ ⟨B, δ, acc, accD, zs, R3, s3, _, _, hun, e6, _, _⟩
      exact ⟨B, δ, R3, s3, hun, stl e6⟩
    · rintro i x H H' hi ⟨B, δ, acc, accD, zs, R3, s3, hh, ra, hun, e6, ey, hl⟩ y
      have st := stl e6
      obtain ⟨C, d, R4, s4, sH, fr4, e7, r⟩ := iw.yields i B H δ _ x H' R3 s3 (hk R3 hun st) st hi y
      -- D is held through the whole turn
      have hh4 : Held G C H' δ (wipe σ vs) D acc := ⟨sH _ _ hh.at_, (by
        cases q : C D with
        | none => rfl
        | some o =>
          rcases fr4 D o q with ⟨u, hu⟩ | hu
          · rw [hh.a] at hu
            cases hu
          · rw [hh.at_] at hu
            cases hu), hh.g, hh.h⟩
      have R5 := R4.hold hh4.at_ hh4.a hh4.g hh4.h
      rw [List.drop_eq_getElem_cons hi] at e6
      have ed : xs[i] = d := by
        rw [List.getElem?_eq_getElem hi] at e7
        exact Option.some.inj e7
      rw [ed] at e6
      unfold lcGo at e6
      rw [if_pos st] at e6
      simp only [Option.bind_eq_some_iff] at e6
      obtain ⟨δ4, e8, ⟨k, δ5⟩, e9, e10⟩ := e6
      refine gs (G.with D acc) C H' δ δ4 (wipe σ vs) x d eK R5 r e8 _ fun τ R6 w6 => ?_
      have ww : wipe τ vs = wipe σ vs := (w6 vs hv).trans (wipe_wipe σ vs)
      refine ⟨ww, G.with D acc, C, δ4, k, δ5, eK, R6, e9, fun C7 H7 R7 s7 => ?_⟩
      cases k with
      | true =>
        refine iteT ?_
        simp only [if_true, Option.bind_eq_some_iff, Option.map_eq_some_iff] at e10
        obtain ⟨⟨r8, δ8⟩, e11, δ9, e12, ⟨zs', δz⟩, e13, e14⟩ := e10
        cases e14
        refine ⟨G.with D acc, C7, δ5, r8, δ8, eK, R7, e11, fun v C8 H8 R8 s8 k8 => ?_⟩
        obtain ⟨C9, R9, s9, k9⟩ := R8.toD k8
        obtain ⟨R10, hh10⟩ := R4.found hh4 R9
        have R11 : Rl G C9 H8 δ9 (wipe σ vs) := by
          have := R10.wipe e12
          rw [ww] at this
          exact this
        refine ⟨acc, hh10.at_, ?_, ?_⟩
        · have : i < xs.length := hi
          exact Nat.lt_of_lt_of_le (Nat.lt_of_le_of_lt hl hi) (line_le hlen)
        · have un9 := (unAll_spec e12).2.1
          have nh : ∀ j, ¬ Holds δ9 (wipe σ vs) j D := fun j ⟨⟨s, x1, x2⟩, x3⟩ => by
            by_cases hj : j ∈ vs
            · rw [un9 j hj] at x1
              cases x1
              cases x2
            · rw [(unAll_spec e12).2.2.1 j hj] at x1
              rw [wipe_other hj] at x3
              refine hh10.h j ⟨⟨s, x1, x2⟩, ?_⟩
              have : (wipe τ vs)[j]? = (wipe σ vs)[j]? := by rw [ww]
              rw [wipe_other hj, wipe_other hj] at this
              rw [this]
              exact x3
          refine ⟨C9, δ9, acc ++ [v], accD ++ [r8.toD], zs', R11.relay hh10.at_ hh10.a hh10.g nh, ?_, ⟨upd_same, hh10.a, hh10.g, nh⟩, (ra.sub (((s4.trans s7).trans s8).trans s9)).append (.cons k9 .nil), un9, e13, ?_, ?_⟩
          · exact s3.trans (((s4.trans s7).trans s8).trans s9)
          · rw [ey, List.append_assoc]
            rfl
          · rw [List.length_append, List.length_singleton]
            omega
      | false =>
        refine iteF ?_
        rw [if_neg Bool.false_ne_true] at e10
        simp only [Option.bind_eq_some_iff] at e10
        obtain ⟨δ9, e12, e13⟩ := e10
        obtain ⟨R10, hh10⟩ := R4.found hh4 R7
        have R11 : Rl G C7 H7 δ9 (wipe σ vs) := by
          have := R10.wipe e12
          rw [ww] at this
          exact this
        have un9 := (unAll_spec e12).2.1
        have nh : ∀ j, ¬ Holds δ9 (wipe σ vs) j D := fun j ⟨⟨s, x1, x2⟩, x3⟩ => by
          by_cases hj : j ∈ vs
          · rw [un9 j hj] at x1
            cases x1
            cases x2
          · rw [(unAll_spec e12).2.2.1 j hj] at x1
            rw [wipe_other hj] at x3
            refine hh10.h j ⟨⟨s, x1, x2⟩, ?_⟩
            have : (wipe τ vs)[j]? = (wipe σ vs)[j]? := by rw [ww]
            rw [wipe_other hj, wipe_other hj] at this
            rw [this]
            exact x3
        exact ⟨C7, δ9, acc, accD, zs, R11, s3.trans (s4.trans s7), ⟨hh10.at_, hh10.a, hh10.g, nh⟩, ra.sub (s4.trans s7), un9, e13, ey, by omega⟩
    · rintro H ⟨B, δ, acc, accD, zs, R3, s3, hh, ra, hun, e6, ey, hl⟩
      rw [List.drop_length] at e6
      unfold lcGo at e6
      split at e6
      · cases e6
        rw [List.append_nil] at ey
        subst ey
        have R4 := Rl.back R1 e2 s3 R3
        refine q _ B H R4 (s1.trans s3) ⟨D, acc, rfl, hh.at_, ra, hh.a, hh.g, fun i hi => ?_⟩
        exact hh.h i (back_holds R1 e2 R3 i D hi)
      · cases e6
  · cases e3
variable {elt tg iter : Expr} {ifs : List Expr} {scope : Scope} {own : List (Str × Nat)} {pos : Pos} {it : Ei} {g : TG} {t : Tg} {tt : Et} {te : Ev}
abbrev XTs (X : Cx) (ifs : List Expr) (f : Et) : Prop := PTs X ifs (kT X.K f)
theorem xts_nil : XTs X [] tYes := ⟨fun pins s σ H Q I h => pts_nil.run pins s σ H Q I (by
  obtain ⟨G, H0, δ, b, δ', eK, R, e, q⟩ := h
  cases e
  exact q _ _ R (Sub.refl _))⟩
theorem xts_one {c : Expr} {f : Et} (h : XT X c f) : XTs X [c] f := pts_one h
theorem x_lc (hc : X.calm = true) (hN : X.N.Nodup) (hi : XI X tg iter it) (ok : BlkOk X.N X.env.scope scope own) (gs : GS X.K g t) (hv : ∀ i ∈ t.slots, i ∈ own.map (·.2))
    (hg : ∀ (s : Shared) (H : Hp) (C : Addr) (cl : List (Str × Addr)) (fp : List Addr), PG (X.blk s H scope (compEnvC scope cl C X.env) fp) tg g) (ht : ∀ (s : Shared) (H : Hp) (C : Addr) (cl : List (Str × Addr)) (fp : List Addr), XTs (X.blk s H scope (compEnvC scope cl C X.env) fp) ifs tt)
    (he : ∀ (s : Shared) (H : Hp) (C : Addr) (cl : List (Str × Addr)) (fp : List Addr), XV (X.blk s H scope (compEnvC scope cl C X.env) fp) elt te) (hs : ∀ x, foldedSetIterable iter X.env x = pure x := by intro _; rfl) :
    XV X (.ListComp elt [⟨tg, iter, ifs, 0⟩] scope pos) (vLc (own.map (·.2)) it t tt te) := (pe_lc hc hN hi ok hg ht he hs).weak fun _ _ _ h => lc_read gs hv h
theorem xs_setLc {i : Nat} {y : Str} {py spos : Pos} (hc : X.calm = true) (hN : X.N.Nodup) (hy : X.N[i]? = some y) (hyl : X.env.scope.names.lookup y = some .local)
    (hsw : swapsWith (.ListComp elt [⟨tg, iter, ifs, 0⟩] scope pos) (some (.Name y py)) spos.line X.env = pure true) (hi : XI X tg iter it) (ok : BlkOk X.N X.env.scope scope own) (gs : GS X.K g t) (hv : ∀ i ∈ t.slots, i ∈ own.map (·.2))
    (hg : ∀ (s : Shared) (H : Hp) (C : Addr) (cl : List (Str × Addr)) (fp : List Addr), PG (X.blk s H scope (compEnvC scope cl C X.env) fp) tg g) (ht : ∀ (s : Shared) (H : Hp) (C : Addr) (cl : List (Str × Addr)) (fp : List Addr), XTs (X.blk s H scope (compEnvC scope cl C X.env) fp) ifs tt)
    (he : ∀ (s : Shared) (H : Hp) (C : Addr) (cl : List (Str × Addr)) (fp : List Addr), XV (X.blk s H scope (compEnvC scope cl C X.env) fp) elt te) (hs : ∀ x, foldedSetIterable iter X.env x = pure x := by intro _; rfl) :
    XS X (.Assign [.Name y py] (.ListComp elt [⟨tg, iter, ifs, 0⟩] scope pos) spos) (sSet i (vLc (own.map (·.2)) it t tt te)) :=
  (ps_setLc hc hN hy hyl hsw hi ok hg ht he hs).weak fun D σ H h => by
    have := set_read h
    exact lc_read gs hv (K := X.K) (by
      obtain ⟨G, H0, δ, r, δ', eK, R, e, q⟩ := this
      exact ⟨G, H0, δ, r, δ', eK, R, e, q⟩)
end
end IP
end
section
set_option Elab.async false
set_option linter.all false
set_option maxRecDepth 100000
set_option maxHeartbeats 4000000
/-! tuple * int, any int. -/
namespace L2
open PySem PySem.Spec PyProof.Rows
theorem tuple_mulS (l : Addr) (items : Array Value) (n : Nat) (dd : Option Addr) (sl : Array (Option Value)) (x : Int) (u : Tok) (c0 : (decide (x < -(2 ^ 63)) || decide (x ≥ 2 ^ 63)) = false) (c1 : (items.isEmpty || x == 1) = true) :
    Meets (Builtin.«tuple.__mul__» ⟨[.ref l, .int x u], []⟩) (fun _ R s => s.heap.get? l = some { cls := .type "tuple", dict := dd, data := .seq items n, slots := sl } ∧
      R (.ok (.ret (Value.ref l))) s) :=
  .of_wp fun prog w A R s h => by
    obtain ⟨hp, g, d, tk, os⟩ := s
    obtain ⟨hl, h⟩ := h
    have f1 := AutoSeq1.idx_int
    wp_walk using wpAny_loadPart' hl
    repeat (first
      | (refine wpAny_ite_false (decide_eq_false (by rw [c0]; exact Bool.false_ne_true)) ?_; wp_walk using wpAny_loadPart' hl)
      | (refine wpAny_ite_true (decide_eq_true c1) ?_; wp_walk using wpAny_loadPart' hl))
    exact ⟨_, rfl, h⟩
theorem tuple_mul0 (l : Addr) (items : Array Value) (n : Nat) (dd : Option Addr) (sl : Array (Option Value)) (x : Int) (u : Tok) (c0 : (decide (x < -(2 ^ 63)) || decide (x ≥ 2 ^ 63)) = false) (c1 : (items.isEmpty || x == 1) = false) (c2 : (decide (x ≤ 0) || items.isEmpty) = true) :
    Meets (Builtin.«tuple.__mul__» ⟨[.ref l, .int x u], []⟩) (fun _ R s => s.heap.get? l = some { cls := .type "tuple", dict := dd, data := .seq items n, slots := sl } ∧
      R (.ok (.ret (Value.ref s.heap.objs.size))) { s with heap := s.heap.push { cls := Value.type "tuple", data := Data.seq #[] }, toks := s.toks }) :=
  .of_wp fun prog w A R s h => by
    obtain ⟨hp, g, d, tk, os⟩ := s
    obtain ⟨hl, h⟩ := h
    have f1 := AutoSeq1.idx_int
    wp_walk using wpAny_loadPart' hl
    repeat (first
      | (refine wpAny_ite_false (decide_eq_false (by rw [c0]; exact Bool.false_ne_true)) ?_; wp_walk using wpAny_loadPart' hl)
      | (refine wpAny_ite_false (decide_eq_false (by rw [c1]; exact Bool.false_ne_true)) ?_; wp_walk using wpAny_loadPart' hl)
      | (refine wpAny_ite_true (decide_eq_true c2) ?_; wp_walk using wpAny_loadPart' hl))
    exact ⟨_, rfl, h⟩
/-- t * k: t itself (empty, or k = 1), or a new tuple -/
def rRepA (K : PySem.W.Frag) : R2 := fun x y H Q => ∃ l k xs, x = .ref l ∧ y = .int k ∧ SqT K H l xs ∧ -(2 ^ 62) ≤ k ∧ k ≤ 2 ^ 62 ∧ xs.length * k.toNat ≤ sizeLine ∧ (xs = [] ∨ k = 1 → Q (.ref l) H) ∧
  (¬ (xs = [] ∨ k = 1) → ∀ p, H p = none → Q (.ref p) (upd H p (.tup (List.replicate k.toNat xs).flatten)))
section
variable {X : Cx}
theorem op_repA : OpR X (binaryOp .Mult) (rRepA X.K) := by
  intro pins s σ H x y v u Q I rx ry h
  obtain ⟨l, k, xs, rfl, rfl, hT, h1, h2, hz, q1, q2⟩ := h
  cases rx
  obtain ⟨t, rfl⟩ := ry
  obtain ⟨its, r, ⟨⟨cls, dd, data, sl⟩, ho, hc, n, hd⟩, hs⟩ := I.tuple hT
  simp only at hc hd
  subst hc hd
  have hle : its.length = xs.length := r.length.symm
  have hsz0 : its.toArray.size = xs.length := by rw [List.size_toArray, hle]
  have c0 : (decide (k < -(2 ^ 63)) || decide (k ≥ 2 ^ 63)) = false := by
    rw [decide_eq_false (by omega), decide_eq_false (by omega)] <;> rfl
  by_cases same : xs = [] ∨ k = 1
  · have c1 : (its.toArray.isEmpty || k == 1) = true := by
      rcases same with e | e
      · have : its = [] := List.eq_nil_of_length_eq_zero (by rw [hle, e]; rfl)
        rw [this]
        rfl
      · rw [e]
        simp
    refine wpAny_binaryOp_repeat_ref (T := "tuple") (U := "int") (by decide) ⟨_, ho, rfl⟩ (fun s' => typeIs_int s' k t) noFill_tuple_mul F.fills_int_mul F.slot_int_rmul repeat_tuple F.slot_int_index.lookup
      (call_meets F.slot_int_rmul (typeIs_int s k t) F.entry_int_rmul (F.args_int_rmul_2 _ _) (int_rmul_tuple k t l its.toArray n dd sl)
        ⟨ho, rfl, ⟨_, ho, rfl⟩, call_meets F.slot_tuple_mul ⟨_, ho, rfl⟩ F.entry_tuple_mul (F.args_tuple_mul_2 _ _) (tuple_mulS l its.toArray n dd sl k t c0 c1) ⟨ho, ?_⟩⟩)
    exact ⟨.ref l, H, I, rfl, q1 same⟩
  · have hne : xs ≠ [] := fun e => same (.inl e)
    have hn : its ≠ [] := fun e => hne (by
      rw [e] at hle
      exact List.eq_nil_of_length_eq_zero hle.symm)
    have hi : its.toArray.isEmpty = false := by
      cases its with
      | nil => exact absurd rfl hn
      | cons a b => rfl
    have c1 : (its.toArray.isEmpty || k == 1) = false := by
      rw [hi, Bool.false_or]
      exact beq_eq_false_iff_ne.mpr (fun e => same (.inr e))
    by_cases hk : k ≤ 0
    · have c2 : (decide (k ≤ 0) || its.toArray.isEmpty) = true := by
        rw [decide_eq_true hk] <;> rfl
      refine wpAny_binaryOp_repeat_ref (T := "tuple") (U := "int") (by decide) ⟨_, ho, rfl⟩ (fun s' => typeIs_int s' k t) noFill_tuple_mul F.fills_int_mul F.slot_int_rmul repeat_tuple F.slot_int_index.lookup
        (call_meets F.slot_int_rmul (typeIs_int s k t) F.entry_int_rmul (F.args_int_rmul_2 _ _) (int_rmul_tuple k t l its.toArray n dd sl)
          ⟨ho, rfl, ⟨_, ho, rfl⟩, call_meets F.slot_tuple_mul ⟨_, ho, rfl⟩ F.entry_tuple_mul (F.args_tuple_mul_2 _ _) (tuple_mul0 l its.toArray n dd sl k t c0 c1 c2) ⟨ho, ?_⟩⟩)
      have e0 : (List.replicate k.toNat xs).flatten = [] := by
        have : k.toNat = 0 := by omega
        rw [this]
        rfl
      refine ⟨.ref s.heap.objs.size, _, I.laid (t' := s.toks) (o := .tup []) (fun b ob q => Heap.get?_push_of_some _ q) (Nat.le_refl _) ?_, rfl, ?_⟩
      · exact ⟨Nat.zero_le _, [], .nil, IsTup.new _ _⟩
      · have := q2 same _ (I.hok.fresh (Nat.le_refl _))
        rw [e0] at this
        exact this
    · have kp : 0 < k := by omega
      have hnat : its.toArray.size * k.toNat ≤ sizeLine := by rw [hsz0]; exact hz
      have hint : ((its.toArray.size : Nat) : Int) * k = ((its.toArray.size * k.toNat : Nat) : Int) := by
        rw [Int.natCast_mul, Int.toNat_of_nonneg (by omega)]
      have sl0 : sizeLine = 16777216 := sizeLine_eq
      have flen : (List.replicate k.toNat its).flatten.length ≤ sizeLine := by
        rw [PyProof.Rows.lm_len_rep_flat, hle, Nat.mul_comm]
        exact hz
      have c2 : (decide (k ≤ 0) || its.toArray.isEmpty) = false := by
        rw [hi, Bool.or_false]
        exact decide_eq_false (by omega)
      have c4 : Builtin.Tuple.tupleTooMany (((its.toArray.size : Nat) : Int) * k) = false := by
        unfold Builtin.Tuple.tupleTooMany
        rw [hint]
        exact decide_eq_false (by omega)
      refine wpAny_binaryOp_repeat_ref (T := "tuple") (U := "int") (by decide) ⟨_, ho, rfl⟩ (fun s' => typeIs_int s' k t) noFill_tuple_mul F.fills_int_mul F.slot_int_rmul repeat_tuple F.slot_int_index.lookup
        (call_meets F.slot_int_rmul (typeIs_int s k t) F.entry_int_rmul (F.args_int_rmul_2 _ _) (int_rmul_tuple k t l its.toArray n dd sl)
          ⟨ho, rfl, ⟨_, ho, rfl⟩, call_meets F.slot_tuple_mul ⟨_, ho, rfl⟩ F.entry_tuple_mul (F.args_tuple_mul_2 _ _) (tuple_mulW l its.toArray n dd sl k t c0 c1 c2 (by rw [hint]; omega) c4 (by rw [size_rep, List.size_toArray]; exact flen)) ⟨ho, ?_⟩⟩)
      rw [size_rep]
      refine ⟨.ref s.heap.objs.size, _, I.laid (t' := s.toks) (o := .tup (List.replicate k.toNat xs).flatten) (fun b ob q => Heap.get?_push_of_some _ q) (Nat.le_refl _) ?_, rfl, q2 same _ (I.hok.fresh (Nat.le_refl _))⟩
      exact ⟨by rw [PyProof.Rows.lm_len_rep_flat, Nat.mul_comm]; exact hz, _, r.rep k.toNat, IsTup.new _ _⟩
end
end L2
end
section
set_option Elab.async false
set_option linter.all false
set_option maxRecDepth 100000
set_option maxHeartbeats 2000000
namespace IP
open PySem L2
/-! ### the operators -/
section
variable {X : Cx} {K : PySem.W.Frag}
theorem relT_int {H0 H : Hp} {v : V} {i : Int} (h : RelT K H0 H v (.int i)) : v = .int i := by
  rcases h with h | ⟨_, _, _, h, _⟩
  · cases h
    rfl
  · cases h
theorem relT_bool {H0 H : Hp} {v : V} {i : Bool} (h : RelT K H0 H v (.bool i)) : v = .bl i := by
  rcases h with h | ⟨_, _, _, h, _⟩
  · cases h
    rfl
  · cases h
theorem relT_list {H0 H : Hp} {v : V} {ds : List D} (s : Sub H0 H) (h : RelT K H0 H v (.list ds)) : ∃ p xs, v = .ref p ∧ H p = some (.lst xs) ∧ RelAll K H0 xs ds := by
  rcases h with h | ⟨_, _, _, e, h⟩
  · cases h with
    | lst h1 h2 => exact ⟨_, _, rfl, s _ _ h1, h2⟩
  · cases e
    exact ⟨_, _, h⟩
theorem relT_tup {H0 H : Hp} {v : V} {ds : List D} (h : RelT K H0 H v (.tuple ds)) : ∃ p xs, v = .ref p ∧ SqT K H0 p xs ∧ RelAll K H0 xs ds := by
  rcases h with h | ⟨_, _, _, e, h⟩
  · cases h with
    | tup h1 h2 => exact ⟨_, _, rfl, h1, h2⟩
  · cases e
theorem relT_scr {H0 H : Hp} {v : V} {xs : List D} (h : RelT K H0 H v (.dict [(.none, .tuple xs)])) : ∃ (p : Addr) (ns : List Int), v = .ref p ∧ SqL K H0 p (ns.map V.int) ∧ xs = ns.map PyData.int := by
  rcases h with h | ⟨_, _, _, e, h⟩
  · generalize e : (PyData.dict [(.none, .tuple xs)]) = d at h
    cases h with
    | scr h1 =>
      unfold IP.scr at e
      injection e with e
      injection e with e _
      injection e with _ e
      injection e with e
      exact ⟨_, _, rfl, h1, e⟩
    | _ => cases e
  · cases e
theorem s_int {op : D → D → Option Res} {C : Int → Int → Prop} {f : Int → Int → Int} (h : ∀ a b res, op a b = some res → ∃ i j, a = .int i ∧ b = .int j ∧ C i j ∧ res = .dat (.int (f i j))) : OpS K (rI C fun i j => .int (f i j)) op := by
  intro G H0 H δ σ x y dx dy res eK R rx ry e Q q
  obtain ⟨i, j, rfl, rfl, c, rfl⟩ := h _ _ _ e
  obtain rfl := relT_int rx
  obtain rfl := relT_int ry
  exact ⟨i, j, rfl, rfl, c, q _ _ _ R (Sub.refl _) (.int _)⟩
theorem s_cmp {op : D → D → Option Res} {f : Int → Int → Bool} (h : ∀ a b res, op a b = some res → ∃ i j, a = .int i ∧ b = .int j ∧ res = .dat (.bool (f i j))) : OpS K (rI0 fun i j => .bl (f i j)) op := by
  intro G H0 H δ σ x y dx dy res eK R rx ry e Q q
  obtain ⟨i, j, rfl, rfl, rfl⟩ := h _ _ _ e
  obtain rfl := relT_int rx
  obtain rfl := relT_int ry
  exact ⟨i, j, rfl, rfl, q _ _ _ R (Sub.refl _) (.bl _)⟩
theorem s_sub : OpS K (rI0 fun i j => .int (i - j)) bSub := by
  intro G H0 H δ σ x y dx dy res eK R rx ry e Q q
  cases dx <;> cases dy <;> simp only [bSub, reduceCtorEq, Option.some.injEq] at e
  subst e
  obtain rfl := relT_int rx
  obtain rfl := relT_int ry
  exact ⟨_, _, rfl, rfl, q _ _ _ R (Sub.refl _) (.int _)⟩
theorem s_lt : OpS K (rI0 fun i j => .bl (decide (i < j))) bLt := s_cmp fun a b res e => by
  cases a <;> cases b <;> simp only [bLt, reduceCtorEq, Option.some.injEq] at e
  exact ⟨_, _, rfl, rfl, e.symm⟩
theorem s_le : OpS K (rI0 fun i j => .bl (decide (i ≤ j))) bLe := s_cmp fun a b res e => by
  cases a <;> cases b <;> simp only [bLe, reduceCtorEq, Option.some.injEq] at e
  exact ⟨_, _, rfl, rfl, e.symm⟩
theorem s_gt : OpS K (rI0 fun i j => .bl (decide (j < i))) bGt := s_cmp fun a b res e => by
  cases a <;> cases b <;> simp only [bGt, reduceCtorEq, Option.some.injEq] at e
  exact ⟨_, _, rfl, rfl, e.symm⟩
theorem s_ge : OpS K (rI0 fun i j => .bl (decide (j ≤ i))) bGe := s_cmp fun a b res e => by
  cases a <;> cases b <;> simp only [bGe, reduceCtorEq, Option.some.injEq] at e
  exact ⟨_, _, rfl, rfl, e.symm⟩
theorem s_mod : OpS K (rI (fun _ j => 0 < j) fun i j => .int (i % j)) bMod := s_int fun a b res e => by
  cases a <;> cases b <;> simp only [bMod, reduceCtorEq, Option.some.injEq] at e
  split at e
  · rename_i h
    cases e
    exact ⟨_, _, rfl, rfl, h, rfl⟩
  · cases e
theorem s_pow : OpS K (rI CPow fun i j => .int (i ^ j.toNat)) bPow := s_int fun a b res e => by
  cases a <;> cases b <;> simp only [bPow, reduceCtorEq, Option.some.injEq] at e
  split at e
  · rename_i h
    cases e
    exact ⟨_, _, rfl, rfl, h, rfl⟩
  · cases e
theorem s_shr : OpS K (rI (fun _ j => 0 ≤ j) fun i j => .int (i / 2 ^ j.toNat)) bShr := s_int fun a b res e => by
  cases a <;> cases b <;> simp only [bShr, reduceCtorEq, Option.some.injEq] at e
  split at e
  · rename_i h
    cases e
    exact ⟨_, _, rfl, rfl, h, rfl⟩
  · cases e
theorem or_cases {r r' : R2} {x y : V} {H : Hp} {Q : VK} (h : r x y H Q ∨ r' x y H Q) : (fun x y H Q => r x y H Q ∨ r' x y H Q : R2) x y H Q := h
abbrev rFdiv : R2 := fun x y H Q => (rI CDiv fun i j => .int (i / j)) x y H Q ∨ (rI CDivW fun i j => .int (i / j)) x y H Q
theorem op_fdivA : OpR X (binaryOp .FloorDiv) rFdiv := op_fdiv.or op_fdivW
theorem s_fdiv : OpS K rFdiv bFdiv := by
  intro G H0 H δ σ x y dx dy res eK R rx ry e Q q
  cases dx <;> cases dy <;> simp only [bFdiv, reduceCtorEq] at e
  split at e
  · rename_i h
    cases e
    obtain rfl := relT_int rx
    obtain rfl := relT_int ry
    rcases h with ⟨h1, h2 | h2⟩
    · exact .inl ⟨_, _, rfl, rfl, ⟨h1, h2⟩, q _ _ _ R (Sub.refl _) (.int _)⟩
    · exact .inr ⟨_, _, rfl, rfl, ⟨h1, h2⟩, q _ _ _ R (Sub.refl _) (.int _)⟩
  · cases e
abbrev rAddA (K : PySem.W.Frag) : R2 := fun x y H Q => (rI0 fun i j => .int (i + j)) x y H Q ∨ (fun x y H Q => rCatA K x y H Q ∨ rCat x y H Q) x y H Q
theorem op_addA : OpR X (binaryOp .Add) (rAddA X.K) := op_add.or (op_catA.or op_cat)
theorem s_add : OpS K (rAddA K) bAdd := by
  intro G H0 H δ σ x y dx dy res eK R rx ry e Q q
  subst eK
  cases dx <;> cases dy <;> simp only [bAdd, reduceCtorEq] at e
  · cases e
    obtain rfl := relT_int rx
    obtain rfl := relT_int ry
    exact .inl ⟨_, _, rfl, rfl, q _ _ _ R (Sub.refl _) (.int _)⟩
  · split at e
    · rename_i h
      cases e
      obtain ⟨p, xs, rfl, h1, h2⟩ := relT_list R.sub rx
      obtain ⟨p', ys, rfl, h3, h4⟩ := relT_list R.sub ry
      refine .inr (.inr ⟨p, p', xs, ys, rfl, rfl, h1, h3, line_le (by rw [h2.length, h4.length]; exact h), fun z hz => ?_⟩)
      have f := R.fresh hz
      exact q _ _ _ (R.laid hz) (Sub.refl _) ⟨z, _, rfl, upd_same, h2.append h4, f.1, f.2.1, f.2.2⟩
    · cases e
  · split at e
    · rename_i h
      cases e
      obtain ⟨p, xs, rfl, h1, h2⟩ := relT_tup rx
      obtain ⟨p', ys, rfl, h3, h4⟩ := relT_tup ry
      refine .inr (.inl ⟨p, p', xs, ys, rfl, rfl, SqT.sub R.sub h1, SqT.sub R.sub h3, line_le (by rw [h2.length, h4.length]; exact h), fun z => ?_, fun _ z => ?_, fun _ _ z hz => ?_⟩)
      · subst z
        refine q _ _ _ R (Sub.refl _) ?_
        cases h2
        exact .tup h3 h4
      · subst z
        refine q _ _ _ R (Sub.refl _) ?_
        cases h4
        show Rel G.K H0 (.ref p) (.tuple (_ ++ []))
        rw [List.append_nil]
        exact .tup h1 h2
      · obtain ⟨R4, s4⟩ := R.laid0 (o := .tup (xs ++ ys)) hz
        exact q _ _ _ R4 s4 (.tup (SqT.of upd_same) ((h2.append h4).sub s4))
    · cases e
abbrev rMulA (K : PySem.W.Frag) : R2 := fun x y H Q => (fun x y H Q => (rI CMul fun i j => .int (i * j)) x y H Q ∨ (rI CMulW fun i j => .int (i * j)) x y H Q) x y H Q ∨ (fun x y H Q => rRep x y H Q ∨ rRepA K x y H Q) x y H Q
theorem op_mulA : OpR X (binaryOp .Mult) (rMulA X.K) := (op_mul.or op_mulW).or (op_rep.or op_repA)
theorem s_mul : OpS K (rMulA K) bMul := by
  intro G H0 H δ σ x y dx dy res eK R rx ry e Q q
  subst eK
  cases dx <;> cases dy <;> simp only [bMul, reduceCtorEq] at e
  · split at e
    · rename_i h
      cases e
      obtain rfl := relT_int rx
      obtain rfl := relT_int ry
      rcases h with h | h
      · exact .inl (.inl ⟨_, _, rfl, rfl, h, q _ _ _ R (Sub.refl _) (.int _)⟩)
      · exact .inl (.inr ⟨_, _, rfl, rfl, h, q _ _ _ R (Sub.refl _) (.int _)⟩)
    · cases e
  · split at e
    · rename_i h
      cases e
      obtain ⟨p, xs, rfl, h1, h2⟩ := relT_list R.sub rx
      obtain rfl := relT_int ry
      refine .inr (.inl ⟨p, _, xs, rfl, rfl, h1, h.1, h.2.1, line_le (by rw [h2.length]; exact h.2.2), fun z hz => ?_⟩)
      have f := R.fresh hz
      exact q _ _ _ (R.laid hz) (Sub.refl _) ⟨z, _, rfl, upd_same, h2.rep _, f.1, f.2.1, f.2.2⟩
    · cases e
  · split at e
    · rename_i h
      cases e
      obtain ⟨p, xs, rfl, h1, h2⟩ := relT_tup rx
      obtain rfl := relT_int ry
      refine .inr (.inr ⟨p, _, xs, rfl, rfl, SqT.sub R.sub h1, h.1, h.2.1, line_le (by rw [h2.length]; exact h.2.2), fun hw => ?_, fun _ z hz => ?_⟩)
      · refine q _ _ _ R (Sub.refl _) ?_
        rcases hw with z | z
        · subst z
          cases h2
          show Rel G.K H0 (.ref p) (.tuple _)
          simp only [List.flatten_replicate_nil]
          exact .tup h1 .nil
        · subst z
          show Rel G.K H0 (.ref p) (.tuple _)
          have e1 : (1 : Int).toNat = 1 := rfl
          rw [e1, List.replicate_one, List.flatten_singleton]
          exact .tup h1 h2
      · obtain ⟨R4, s4⟩ := R.laid0 hz
        exact q _ _ _ R4 s4 (.tup (SqT.of upd_same) ((h2.rep _).sub s4))
    · cases e
/-- equality of data -/
theorem relT_dp {H0 H : Hp} {v : V} {d : D} (s : Sub H0 H) (h : RelT K H0 H v d) (hs : SeqAt.shaped d = true) : Dp K H v d := by
  rcases h with h | ⟨p, xs, ds, rfl, rfl, h1, h2⟩
  · exact (h.sub s).dp hs
  · exact (Rel.lst h1 (h2.sub s)).dp hs
theorem s_eq : OpS K (rEqD K) bEq := by
  intro G H0 H δ σ x y dx dy res eK R rx ry e Q q
  subst eK
  unfold bEq at e
  split at e
  · rename_i h
    cases e
    exact ⟨dx, dy, relT_dp R.sub rx h.1, relT_dp R.sub ry h.2, h.1, h.2, q _ _ _ R (Sub.refl _) (.bl _)⟩
  · cases e
theorem s_ne : OpS K (rNeD K) bNe := by
  intro G H0 H δ σ x y dx dy res eK R rx ry e Q q
  subst eK
  unfold bNe at e
  split at e
  · rename_i h
    cases e
    exact ⟨dx, dy, relT_dp R.sub rx h.1, relT_dp R.sub ry h.2, h.1, h.2, q _ _ _ R (Sub.refl _) (.bl _)⟩
  · cases e
/-- items -/
theorem atD_rel {H0 : Hp} {xs : List V} {ds : List D} {i : Int} {d : D} (r : RelAll K H0 xs ds) (e : atD ds i = some d) : ∃ v, atI xs i = some v ∧ Rel K H0 v d := by
  unfold atD at e
  simp only [Option.bind_eq_some_iff] at e
  obtain ⟨j, e1, e2⟩ := e
  obtain ⟨v, h1, h2⟩ := r.get e2
  refine ⟨v, ?_, h2⟩
  unfold atI
  rw [r.length]
  have e1' : L2.ixN ds.length i = some j := e1
  rw [e1']
  exact h1
abbrev rIxA (K : PySem.W.Frag) : R2 := fun x y H Q => rIxL K x y H Q ∨ rIxT K x y H Q
theorem ix_any : IxR X (rIxA X.K) := ix_list.or ix_tup
theorem s_ix : OpS K (rIxA K) bIx := by
  intro G H0 H δ σ x y dx dy res eK R rx ry e Q q
  subst eK
  have lst : ∀ ds i, dx = .list ds → dy = .int i → (atD ds i).map Res.dat = some res → rIxA G.K x y H Q := by
    rintro ds i rfl rfl e
    simp only [Option.map_eq_some_iff] at e
    obtain ⟨d, e1, rfl⟩ := e
    obtain ⟨p, xs, rfl, h1, h2⟩ := relT_list R.sub rx
    obtain rfl := relT_int ry
    obtain ⟨v, h3, h4⟩ := atD_rel h2 e1
    exact .inl ⟨p, xs, i, v, rfl, rfl, SqL.of h1, h3, q _ _ _ R (Sub.refl _) h4⟩
  have tup : ∀ ds i, dx = .tuple ds → dy = .int i → (atD ds i).map Res.dat = some res → rIxA G.K x y H Q := by
    rintro ds i rfl rfl e
    simp only [Option.map_eq_some_iff] at e
    obtain ⟨d, e1, rfl⟩ := e
    obtain ⟨p, xs, rfl, h1, h2⟩ := relT_tup rx
    obtain rfl := relT_int ry
    obtain ⟨v, h3, h4⟩ := atD_rel h2 e1
    exact .inr ⟨p, xs, i, v, rfl, rfl, SqT.sub R.sub h1, h3, q _ _ _ R (Sub.refl _) h4⟩
  unfold bIx at e
  split at e
  · exact lst _ _ rfl rfl e
  · exact tup _ _ rfl rfl e
  · simp only [Option.map_eq_some_iff] at e
    obtain ⟨d, e1, rfl⟩ := e
    obtain ⟨p, ns, rfl, h1, rfl⟩ := relT_scr rx
    obtain rfl := relT_int ry
    obtain ⟨v, h3, h4⟩ := atD_rel (K := G.K) (H0 := H0) relAll_ints e1
    exact .inl ⟨p, _, _, v, rfl, rfl, SqL.sub R.sub h1, h3, q _ _ _ R (Sub.refl _) h4⟩
  · cases e
theorem s_neg : UnS K (rU fun i => .int (-i)) uNeg := by
  intro G H0 H δ σ x dx res eK R rx e Q q
  cases dx <;> simp only [uNeg, reduceCtorEq, Option.some.injEq] at e
  subst e
  obtain rfl := relT_int rx
  exact ⟨_, rfl, q _ _ _ R (Sub.refl _) (.int _)⟩
/-- is None -/
theorem isNone_eq {H0 H : Hp} {v : V} {d : D} (h : RelT K H0 H v d) : decide (v = .non) = isNone d := by
  rcases h with h | ⟨p, xs, ds, rfl, rfl, _⟩
  · cases h <;> simp [isNone, IP.scr]
  · simp [isNone]
variable {a : Expr} {f : Eo} {pos : Pos}
theorem x_isN {j pos'} (ha : XO X a f) : XV X (.Compare a [.Is] [.Constant .none j pos'] pos) (fUn uIsN f) := (pe_cmp (pc_isN ha)).weak fun σ H Q ⟨G, H0, δ, res, δ', eK, R, e, q⟩ => by
  simp only [fUn, uIsN, Option.bind_eq_some_iff, Option.map_eq_some_iff] at e
  obtain ⟨⟨o1, δ1⟩, e1, dx, e3, r', e5, e6⟩ := e
  cases e5
  cases e6
  refine ⟨G, H0, δ, o1, δ1, eK, R, e1, fun v H0' H' R1 s1 k1 => ?_⟩
  dsimp only
  rw [isNone_eq (R1.rd k1 e3)]
  exact q _ _ _ R1 s1 (.bl _)
theorem x_notN {j pos'} (ha : XO X a f) : XV X (.Compare a [.IsNot] [.Constant .none j pos'] pos) (fUn uNotN f) := (pe_cmp (pc_notN ha)).weak fun σ H Q ⟨G, H0, δ, res, δ', eK, R, e, q⟩ => by
  simp only [fUn, uNotN, Option.bind_eq_some_iff, Option.map_eq_some_iff] at e
  obtain ⟨⟨o1, δ1⟩, e1, dx, e3, r', e5, e6⟩ := e
  cases e5
  cases e6
  refine ⟨G, H0, δ, o1, δ1, eK, R, e1, fun v H0' H' R1 s1 k1 => ?_⟩
  dsimp only
  rw [isNone_eq (R1.rd k1 e3)]
  exact q _ _ _ R1 s1 (.bl _)
/-- a bool as a test, where isTrue goes by the value -/
theorem tB_read {f : Ev} {σ : L2.St} {H : Hp} {Q : Bool → Hp → Prop} (h : kT K (tB f) σ H Q) : L2.tB (kE K f) σ H Q := by
  obtain ⟨G, H0, δ, res, δ', eK, R, e, q⟩ := h
  simp only [IP.tB, Option.bind_eq_some_iff] at e
  obtain ⟨⟨r1, δ1⟩, e1, e2⟩ := e
  refine ⟨G, H0, δ, r1, δ1, eK, R, e1, fun v H0' H' R1 s1 k1 => ?_⟩
  cases r1 with
  | new ds => cases e2
  | dat d =>
    cases d with
    | bool k =>
      cases e2
      cases k1
      exact ⟨_, rfl, q _ _ R1 s1⟩
    | _ => cases e2
theorem x_isNT {j pos'} (ha : XO X a f) : XT X (.Compare a [.Is] [.Constant .none j pos'] pos) (tB (fUn uIsN f)) := (pt_cmp (pc_isN ha)).weak fun σ H Q h => by
  have := tB_read h
  obtain ⟨G, H0, δ, res, δ', eK, R, e, q⟩ := this
  simp only [fUn, uIsN, Option.bind_eq_some_iff, Option.map_eq_some_iff] at e
  obtain ⟨⟨o1, δ1⟩, e1, dx, e3, r', e5, e6⟩ := e
  cases e5
  cases e6
  refine ⟨G, H0, δ, o1, δ1, eK, R, e1, fun v H0' H' R1 s1 k1 => ?_⟩
  dsimp only
  rw [isNone_eq (R1.rd k1 e3)]
  exact q _ _ _ R1 s1 (.bl _)
theorem x_notNT {j pos'} (ha : XO X a f) : XT X (.Compare a [.IsNot] [.Constant .none j pos'] pos) (tB (fUn uNotN f)) := (pt_cmp (pc_notN ha)).weak fun σ H Q h => by
  have := tB_read h
  obtain ⟨G, H0, δ, res, δ', eK, R, e, q⟩ := this
  simp only [fUn, uNotN, Option.bind_eq_some_iff, Option.map_eq_some_iff] at e
  obtain ⟨⟨o1, δ1⟩, e1, dx, e3, r', e5, e6⟩ := e
  cases e5
  cases e6
  refine ⟨G, H0, δ, o1, δ1, eK, R, e1, fun v H0' H' R1 s1 k1 => ?_⟩
  dsimp only
  rw [isNone_eq (R1.rd k1 e3)]
  exact q _ _ _ R1 s1 (.bl _)
theorem x_notV {A : Ev} (ha : XV X a A) : XV X (.UnaryOp .Not a pos) (vNot A) := (pe_not ha).weak fun σ H Q ⟨G, H0, δ, res, δ', eK, R, e, q⟩ => by
  simp only [vNot, Option.bind_eq_some_iff] at e
  obtain ⟨⟨t, δ1⟩, e1, e2⟩ := e
  refine ⟨G, H0, δ, t, δ1, eK, R, e1, fun v H0' H' R1 s1 k1 => ?_⟩
  cases t with
  | new _ => cases e2
  | dat d =>
    cases d with
    | bool t =>
      cases e2
      cases k1
      exact ⟨t, rfl, q _ _ _ R1 s1 (.bl _)⟩
    | _ => cases e2
end
end IP
end
section
set_option Elab.async false
set_option linter.all false
set_option maxRecDepth 100000
set_option maxHeartbeats 400000
namespace IP
open PySem L2
section
variable {X : Cx} {K : PySem.W.Frag} {a : Expr} {f : Eo} {pos : Pos}
/-! ### isinstance -/
def tyS : Ty → String
  | .int => "int"
  | .bool => "bool"
  | .str => "str"
  | .list => "list"
  | .tuple => "tuple"
def tyOfD : D → String
  | .none => "NoneType"
  | .bool _ => "bool"
  | .int _ => "int"
  | .str _ => "str"
  | .list _ => "list"
  | .tuple _ => "tuple"
  | .dict _ => "list"
theorem kB_none_int : kitB "NoneType" "int" = some false := by decide +kernel
theorem kB_none_bool : kitB "NoneType" "bool" = some false := by decide +kernel
theorem kB_none_str : kitB "NoneType" "str" = some false := by decide +kernel
theorem kB_none_list : kitB "NoneType" "list" = some false := by decide +kernel
theorem kB_none_tuple : kitB "NoneType" "tuple" = some false := by decide +kernel
theorem kB_bool_int : kitB "bool" "int" = some true := by decide +kernel
theorem kB_bool_bool : kitB "bool" "bool" = some true := by decide +kernel
theorem kB_bool_str : kitB "bool" "str" = some false := by decide +kernel
theorem kB_bool_list : kitB "bool" "list" = some false := by decide +kernel
theorem kB_bool_tuple : kitB "bool" "tuple" = some false := by decide +kernel
theorem kB_int_int : kitB "int" "int" = some true := by decide +kernel
theorem kB_int_bool : kitB "int" "bool" = some false := by decide +kernel
theorem kB_int_str : kitB "int" "str" = some false := by decide +kernel
theorem kB_int_list : kitB "int" "list" = some false := by decide +kernel
theorem kB_int_tuple : kitB "int" "tuple" = some false := by decide +kernel
theorem kB_str_int : kitB "str" "int" = some false := by decide +kernel
theorem kB_str_bool : kitB "str" "bool" = some false := by decide +kernel
theorem kB_str_str : kitB "str" "str" = some true := by decide +kernel
theorem kB_str_list : kitB "str" "list" = some false := by decide +kernel
theorem kB_str_tuple : kitB "str" "tuple" = some false := by decide +kernel
theorem kB_list_int : kitB "list" "int" = some false := by decide +kernel
theorem kB_list_bool : kitB "list" "bool" = some false := by decide +kernel
theorem kB_list_str : kitB "list" "str" = some false := by decide +kernel
theorem kB_list_list : kitB "list" "list" = some true := by decide +kernel
theorem kB_list_tuple : kitB "list" "tuple" = some false := by decide +kernel
theorem kB_tuple_int : kitB "tuple" "int" = some false := by decide +kernel
theorem kB_tuple_bool : kitB "tuple" "bool" = some false := by decide +kernel
theorem kB_tuple_str : kitB "tuple" "str" = some false := by decide +kernel
theorem kB_tuple_list : kitB "tuple" "list" = some false := by decide +kernel
theorem kB_tuple_tuple : kitB "tuple" "tuple" = some true := by decide +kernel
theorem kit_d : ∀ {t : Ty} {d : D} {b : Bool}, isTy t d = some b → kitB (tyOfD d) (tyS t) = some b
  | .int, .none, b, e => by
    cases e
    exact kB_none_int
  | .bool, .none, b, e => by
    cases e
    exact kB_none_bool
  | .str, .none, b, e => by
    cases e
    exact kB_none_str
  | .list, .none, b, e => by
    cases e
    exact kB_none_list
  | .tuple, .none, b, e => by
    cases e
    exact kB_none_tuple
  | .int, .bool _, b, e => by
    cases e
    exact kB_bool_int
  | .bool, .bool _, b, e => by
    cases e
    exact kB_bool_bool
  | .str, .bool _, b, e => by
    cases e
    exact kB_bool_str
  | .list, .bool _, b, e => by
    cases e
    exact kB_bool_list
  | .tuple, .bool _, b, e => by
    cases e
    exact kB_bool_tuple
  | .int, .int _, b, e => by
    cases e
    exact kB_int_int
  | .bool, .int _, b, e => by
    cases e
    exact kB_int_bool
  | .str, .int _, b, e => by
    cases e
    exact kB_int_str
  | .list, .int _, b, e => by
    cases e
    exact kB_int_list
  | .tuple, .int _, b, e => by
    cases e
    exact kB_int_tuple
  | .int, .str _, b, e => by
    cases e
    exact kB_str_int
  | .bool, .str _, b, e => by
    cases e
    exact kB_str_bool
  | .str, .str _, b, e => by
    cases e
    exact kB_str_str
  | .list, .str _, b, e => by
    cases e
    exact kB_str_list
  | .tuple, .str _, b, e => by
    cases e
    exact kB_str_tuple
  | .int, .list _, b, e => by
    cases e
    exact kB_list_int
  | .bool, .list _, b, e => by
    cases e
    exact kB_list_bool
  | .str, .list _, b, e => by
    cases e
    exact kB_list_str
  | .list, .list _, b, e => by
    cases e
    exact kB_list_list
  | .tuple, .list _, b, e => by
    cases e
    exact kB_list_tuple
  | .int, .tuple _, b, e => by
    cases e
    exact kB_tuple_int
  | .bool, .tuple _, b, e => by
    cases e
    exact kB_tuple_bool
  | .str, .tuple _, b, e => by
    cases e
    exact kB_tuple_str
  | .list, .tuple _, b, e => by
    cases e
    exact kB_tuple_list
  | .tuple, .tuple _, b, e => by
    cases e
    exact kB_tuple_tuple
  | .int, .dict _, b, e => by cases e
  | .bool, .dict _, b, e => by cases e
  | .str, .dict _, b, e => by cases e
  | .list, .dict _, b, e => by cases e
  | .tuple, .dict _, b, e => by cases e
theorem tyx_d {H0 H : Hp} {v : V} {d : D} (s : Sub H0 H) (h : RelT K H0 H v d) (hd : ∀ kvs, d ≠ .dict kvs) : TyX K H v (.type (tyOfD d)) := by
  rcases h with h | ⟨p, xs, ds, rfl, rfl, h1, _⟩
  · cases h with
    | non => exact .base .non
    | bl b => exact .base (.bl b)
    | int i => exact .base (.int i)
    | str x => exact .base (.str x)
    | lst h1 h2 => exact .base (.lst (s _ _ h1))
    | tup h1 h2 =>
      rcases h1 with (h1 | ⟨o, h1⟩) | ⟨o, its, n, h1, h3, _⟩
      · exact .base (.tup (s _ _ h1))
      · exact .fTuple (s _ _ h1)
      · exact .kTuple h1 h3
    | scr _ => exact absurd rfl (hd _)
  · exact .base (.lst h1)
theorem isAny_kit {ts : List Ty} {d : D} {b : Bool} (e : isAny ts d = some b) : PySem.W.kitAny K (.type (tyOfD d)) (ts.map fun t => .type (tyS t)) = some b := by
  induction ts with
  | nil =>
    cases e
    exact kitAny_nil
  | cons t ts ih =>
    simp only [isAny, Option.bind_eq_some_iff] at e
    obtain ⟨c, e1, e2⟩ := e
    refine kitAny_cons (kit_ty (kit_d e1)) (fun h => ?_) (fun h => ?_)
    · subst h
      exact ih (by simpa using e2)
    · subst h
      simp only [if_true, Option.some.injEq] at e2
      exact e2.symm
theorem isAny_nodict {ts : List Ty} {d : D} {b : Bool} (hn : ts ≠ []) (e : isAny ts d = some b) : ∀ kvs, d ≠ .dict kvs := by
  intro kvs h
  subst h
  cases ts with
  | nil => exact hn rfl
  | cons t ts => cases t <;> simp [isAny, isTy] at e
/-- the classes of a tuple of classes -/
def kTys (ts : List Ty) : TA := fun _ H Q => Q (ts.map fun t => V.ty (tyS t)) H
theorem xty_nil : PA X [] (kTys []) := pa_nil
theorem xty_cons {t : Ty} {ts : List Ty} {x : Str} {p : Pos} {es : List Expr} (hg : Gl X x) (hm : X.mg x = none) (hv : bootBuiltins x = some (.type (tyS t))) (ht : PA X es (kTys ts)) (hn : x ≠ "__name__" := by decide) (hdb : (x == ("__debug__" : Str)) = false := by decide)
    (hs : starEach (.Name x p :: es) X.env = (false, eval (.Name x p) X.env) :: starEach es X.env := by rfl) : PA X (.Name x p :: es) (kTys (t :: ts)) := (pa_cons (pe_bltn (v := .ty (tyS t)) hg hm hv rfl hn hdb) ht hs).weak fun _ _ _ h => h
theorem cls_all (ts : List Ty) : Paired ClsV (ts.map fun t => V.ty (tyS t)) (ts.map fun t => Value.type (tyS t)) := by
  induction ts with
  | nil => exact .nil
  | cons t ts ih => exact .cons (.ty _) ih
theorem x_isi1 {t : Ty} {x : Str} {p p2 : Pos} (ha : XO X a f) (hgi : Gl X "isinstance") (hmi : X.mg "isinstance" = none) (hbi : bootBuiltins "isinstance" = some (.builtin "isinstance")) (hg : Gl X x) (hm : X.mg x = none) (hv : bootBuiltins x = some (.type (tyS t))) (hn : x ≠ "__name__" := by decide) (hdb : (x == ("__debug__" : Str)) = false := by decide)
    (h1 : starEach [a, .Name x p] X.env = (false, eval a X.env) :: starEach [.Name x p] X.env := by rfl) (h2 : (backTo pos (starEach [.Name x p] X.env)).any (·.1) = false := by rfl) (h3 : starEach [.Name x p] X.env = (false, eval (.Name x p) X.env) :: starEach [] X.env := by rfl) :
    XV X (.Call (.Name "isinstance" p2) [a, .Name x p] [] pos) (fUn (uIs [t]) f) :=
  (pe_callB call_isi hgi hmi hbi (pa_cons ha (pa_cons (pe_bltn (v := .ty (tyS t)) hg hm hv rfl hn hdb) pa_nil h3) h1) (by decide) (by decide) h1 h2).weak fun σ H Q ⟨G, H0, δ, res, δ', eK, R, e, q⟩ => by
    simp only [fUn, uIs, Option.bind_eq_some_iff, Option.map_eq_some_iff] at e
    obtain ⟨⟨o1, δ1⟩, e1, dx, e3, r', ⟨b, e5, e5'⟩, e6⟩ := e
    cases e5'
    cases e6
    refine ⟨G, H0, δ, o1, δ1, eK, R, e1, fun v H0' H' R1 s1 k1 => ?_⟩
    rw [← eK]
    have rt := R1.rd k1 e3
    have nd := isAny_nodict (by simp) e5
    simp only [isAny, Option.bind_eq_some_iff] at e5
    obtain ⟨c, e7, e8⟩ := e5
    have : c = b := by
      cases c
      · simpa using e8
      · simpa using e8
    subst this
    exact ⟨v, .ty (tyS t), _, _, c, rfl, .ty _, tyx_d R1.sub rt nd, kit_ty (kit_d e7), q _ _ _ R1 s1 (.bl _)⟩
theorem x_isiT {ts : List Ty} {es : List Expr} {j : Nat} {p p2 : Pos} (hne : ts ≠ []) (hlen : ts.length ≤ 100) (ha : XO X a f) (hgi : Gl X "isinstance") (hmi : X.mg "isinstance" = none) (hbi : bootBuiltins "isinstance" = some (.builtin "isinstance")) (ht : PA X es (kTys ts))
    (h1 : starEach [a, .Tuple es j p] X.env = (false, eval a X.env) :: starEach [.Tuple es j p] X.env := by rfl) (h2 : (backTo pos (starEach [.Tuple es j p] X.env)).any (·.1) = false := by rfl) (h3 : starEach [.Tuple es j p] X.env = (false, eval (.Tuple es j p) X.env) :: starEach [] X.env := by rfl) :
    XV X (.Call (.Name "isinstance" p2) [a, .Tuple es j p] [] pos) (fUn (uIs ts) f) :=
  (pe_callB call_isiT hgi hmi hbi (pa_cons ha (pa_cons (pe_tup ht) pa_nil h3) h1) (by decide) (by decide) h1 h2).weak fun σ H Q ⟨G, H0, δ, res, δ', eK, R, e, q⟩ => by
    simp only [fUn, uIs, Option.bind_eq_some_iff, Option.map_eq_some_iff] at e
    obtain ⟨⟨o1, δ1⟩, e1, dx, e3, r', ⟨b, e5, e5'⟩, e6⟩ := e
    cases e5'
    cases e6
    refine ⟨G, H0, δ, o1, δ1, eK, R, e1, fun v H0' H' R1 s1 k1 => ?_⟩
    rw [← eK]
    have rt := R1.rd k1 e3
    have nd := isAny_nodict hne e5
    refine ⟨Nat.le_trans (by rw [List.length_map]; exact hlen) (by rw [sizeLine_eq]; decide), fun z hz => ?_⟩
    refine ⟨v, z, _, _, _, b, rfl, upd_same, cls_all ts, tyx_d (R1.laid hz).sub (by
      rcases rt with rt | ⟨p', xs, ds, e1, e2, e3, e4⟩
      · exact .inl rt
      · exact .inr ⟨p', xs, ds, e1, e2, Sub.new hz _ _ e3, e4⟩) nd, isAny_kit e5, q _ _ _ (R1.laid hz) s1 (.bl _)⟩
end
end IP
end
section
set_option Elab.async false
set_option linter.all false
set_option maxRecDepth 100000
set_option maxHeartbeats 400000
namespace IP
open PySem L2
section
variable {X : Cx} {K : PySem.W.Frag}
/-! ### builtins -/
theorem one {H0 H : Hp} {vs : List V} {d : D} (h : RelTAll K H0 H vs [d]) : ∃ v, vs = [v] ∧ RelT K H0 H v d := by
  cases h with
  | cons h t =>
    cases t
    exact ⟨_, rfl, h⟩
theorem two {H0 H : Hp} {vs : List V} {d e : D} (h : RelTAll K H0 H vs [d, e]) : ∃ v w, vs = [v, w] ∧ RelT K H0 H v d ∧ RelT K H0 H w e := by
  cases h with
  | cons h t =>
    obtain ⟨w, rfl, h2⟩ := one t
    exact ⟨_, _, rfl, h, h2⟩
abbrev rLenQ (K : PySem.W.Frag) : List V → Hp → VK → Prop := fun xs H Q => ∃ p ys, xs = [.ref p] ∧ (SqL K H p ys ∨ SqT K H p ys) ∧ Q (.int ys.length) H
theorem s_len : BiS K (rLenQ K) biLen := by
  intro G H0 H δ σ vs ds res eK R r e Q q
  subst eK
  unfold biLen at e
  split at e
  · cases e
    obtain ⟨v, rfl, h⟩ := one r
    obtain ⟨p, xs, rfl, h1, h2⟩ := relT_list R.sub h
    exact ⟨p, xs, rfl, .inl (SqL.of h1), q _ _ _ R (Sub.refl _) (by rw [h2.length]; exact .int _)⟩
  · cases e
    obtain ⟨v, rfl, h⟩ := one r
    obtain ⟨p, xs, rfl, h1, h2⟩ := relT_tup h
    exact ⟨p, xs, rfl, .inr (SqT.sub R.sub h1), q _ _ _ R (Sub.refl _) (by rw [h2.length]; exact .int _)⟩
  · cases e
    obtain ⟨v, rfl, h⟩ := one r
    obtain ⟨p, ns, rfl, h1, rfl⟩ := relT_scr h
    refine ⟨p, _, rfl, .inl (SqL.sub R.sub h1), q _ _ _ R (Sub.refl _) ?_⟩
    rw [List.length_map, List.length_map]
    exact .int _
  · cases e
abbrev rInt1 : List V → Hp → VK → Prop := fun xs H Q => (∃ i, xs = [.int i] ∧ Q (.int i) H) ∨ ∃ k, xs = [.bl k] ∧ Q (.int (if k then 1 else 0)) H
theorem s_int1 : BiS K rInt1 biInt := by
  intro G H0 H δ σ vs ds res eK R r e Q q
  unfold biInt at e
  split at e
  · cases e
    obtain ⟨v, rfl, h⟩ := one r
    obtain rfl := relT_int h
    exact .inl ⟨_, rfl, q _ _ _ R (Sub.refl _) (.int _)⟩
  · cases e
    obtain ⟨v, rfl, h⟩ := one r
    obtain rfl := relT_bool h
    exact .inr ⟨_, rfl, q _ _ _ R (Sub.refl _) (.int _)⟩
  · cases e
abbrev rTupO (K : PySem.W.Frag) : List V → Hp → VK → Prop := fun xs H Q => ∃ p ys, xs = [.ref p] ∧ ((SqL K H p ys ∧ ∀ l, H l = none → Q (.ref l) (upd H l (.tup ys))) ∨ (SqT K H p ys ∧ Q (.ref p) H))
theorem s_tupO : BiS K (rTupO K) biTuple := by
  intro G H0 H δ σ vs ds res eK R r e Q q
  subst eK
  unfold biTuple at e
  split at e
  · cases e
    obtain ⟨v, rfl, h⟩ := one r
    obtain ⟨p, xs, rfl, h1, h2⟩ := relT_list R.sub h
    refine ⟨p, xs, rfl, .inl ⟨SqL.of h1, fun z hz => ?_⟩⟩
    obtain ⟨R4, s4⟩ := R.laid0 (o := .tup xs) hz
    exact q _ _ _ R4 s4 (.tup (SqT.of upd_same) (h2.sub s4))
  · cases e
    obtain ⟨v, rfl, h⟩ := one r
    obtain ⟨p, xs, rfl, h1, h2⟩ := relT_tup h
    exact ⟨p, xs, rfl, .inr ⟨SqT.sub R.sub h1, q _ _ _ R (Sub.refl _) (.tup h1 h2)⟩⟩
  · cases e
abbrev rLstO (K : PySem.W.Frag) : List V → Hp → VK → Prop := fun xs H Q => ∃ p ys, xs = [.ref p] ∧ (SqL K H p ys ∨ SqT K H p ys) ∧ ∀ l, H l = none → Q (.ref l) (upd H l (.lst ys))
theorem s_lstO : BiS K (rLstO K) biList := by
  intro G H0 H δ σ vs ds res eK R r e Q q
  subst eK
  have fin : ∀ xs es, RelAll G.K H0 xs es → res = .new es → ∀ l, H l = none → Q (.ref l) (upd H l (.lst xs)) := by
    rintro xs es h2 rfl z hz
    have f := R.fresh hz
    exact q _ _ _ (R.laid hz) (Sub.refl _) ⟨z, _, rfl, upd_same, h2, f.1, f.2.1, f.2.2⟩
  unfold biList at e
  split at e
  · cases e
    obtain ⟨v, rfl, h⟩ := one r
    obtain ⟨p, xs, rfl, h1, h2⟩ := relT_list R.sub h
    exact ⟨p, xs, rfl, .inl (SqL.of h1), fin _ _ h2 rfl⟩
  · cases e
    obtain ⟨v, rfl, h⟩ := one r
    obtain ⟨p, xs, rfl, h1, h2⟩ := relT_tup h
    exact ⟨p, xs, rfl, .inr (SqT.sub R.sub h1), fin _ _ h2 rfl⟩
  · cases e
theorem s_sum : BiS K (rSum K) biSum := by
  intro G H0 H δ σ vs ds res eK R r e Q q
  subst eK
  unfold biSum at e
  split at e
  · simp only [Option.map_eq_some_iff] at e
    obtain ⟨is, e1, rfl⟩ := e
    obtain ⟨v, rfl, h⟩ := one r
    obtain ⟨p, xs, rfl, h1, h2⟩ := relT_list R.sub h
    obtain rfl := h2.ints e1
    exact ⟨p, is, rfl, SqL.of h1, q _ _ _ R (Sub.refl _) (.int _)⟩
  · cases e
theorem s_all : BiS K (rAll K) biAll := by
  intro G H0 H δ σ vs ds res eK R r e Q q
  subst eK
  unfold biAll at e
  split at e
  · simp only [Option.map_eq_some_iff] at e
    obtain ⟨is, e1, rfl⟩ := e
    obtain ⟨v, rfl, h⟩ := one r
    obtain ⟨p, xs, rfl, h1, h2⟩ := relT_list R.sub h
    obtain rfl := h2.bools e1
    exact ⟨p, is, rfl, SqL.of h1, q _ _ _ R (Sub.refl _) (.bl _)⟩
  · cases e
theorem s_any : BiS K (rAny K) biAny := by
  intro G H0 H δ σ vs ds res eK R r e Q q
  subst eK
  unfold biAny at e
  split at e
  · simp only [Option.map_eq_some_iff] at e
    obtain ⟨is, e1, rfl⟩ := e
    obtain ⟨v, rfl, h⟩ := one r
    obtain ⟨p, xs, rfl, h1, h2⟩ := relT_list R.sub h
    obtain rfl := h2.bools e1
    exact ⟨p, is, rfl, SqL.of h1, q _ _ _ R (Sub.refl _) (.bl _)⟩
  · cases e
abbrev rMax2Q : List V → Hp → VK → Prop := fun xs H Q => ∃ i j, xs = [.int i, .int j] ∧ Q (.int (if j > i then j else i)) H
abbrev rMin2Q : List V → Hp → VK → Prop := fun xs H Q => ∃ i j, xs = [.int i, .int j] ∧ Q (.int (if j < i then j else i)) H
theorem s_max2 : BiS K rMax2Q biMax := by
  intro G H0 H δ σ vs ds res eK R r e Q q
  unfold biMax at e
  split at e
  · cases e
    obtain ⟨v, w, rfl, h, h'⟩ := two r
    obtain rfl := relT_int h
    obtain rfl := relT_int h'
    exact ⟨_, _, rfl, q _ _ _ R (Sub.refl _) (.int _)⟩
  · cases e
theorem s_min2 : BiS K rMin2Q biMin := by
  intro G H0 H δ σ vs ds res eK R r e Q q
  unfold biMin at e
  split at e
  · cases e
    obtain ⟨v, w, rfl, h, h'⟩ := two r
    obtain rfl := relT_int h
    obtain rfl := relT_int h'
    exact ⟨_, _, rfl, q _ _ _ R (Sub.refl _) (.int _)⟩
  · cases e

/-! ### a def keeps its promise -/
theorem fn_read {F : Fn} {N : List Str} {vs : List V} {H : Hp} {Q : VK} {E : XK} (hN : N.length = F.names) (hle : F.nps ≤ F.names) (h : spI K F.run vs H Q E) : kS K F.body { nx := fun _ H' => Q .non H', rt := Q } (L2.start N vs) H := by
  obtain ⟨H0, ds, r, s0, h⟩ := h
  have sn : ∀ (i : Nat) (v : V), vs[i]? = some v → (L2.start N vs)[i]? = some (some v) := fun i v e => by
    unfold L2.start
    have hl : i < vs.length := (List.getElem?_eq_some_iff.mp e).1
    rw [List.getElem?_append_left (by rw [List.length_map]; exact hl), List.getElem?_map, e]
    rfl
  rcases h with ⟨ra, e, q⟩ | ⟨p, xs, xds, yds, ws, rfl, ra, hp, rx, hp0, e, q⟩
  · simp only [Fn.run] at e
    split at e
    · rename_i hb hr
      cases hr
    · rename_i hb hr
      split at e
      · rename_i hlen
        simp only [Option.bind_eq_some_iff] at e
        obtain ⟨δ0, e0, ⟨o, δ1⟩, e1, r', e2, e3⟩ := e
        cases e0
        let G : Gx := ⟨K, H, H0, []⟩
        have hvl : vs.length = ds.length := ra.length
        have dl : ∀ (i : Nat) (s : Slot), (ds.map Slot.dat ++ List.replicate (F.names - F.nps) .un)[i]? = some s → s = .un ∨ ∃ d, s = .dat d ∧ ds[i]? = some d := fun i s e => by
          by_cases hi : i < ds.length
          · rw [List.getElem?_append_left (by rw [List.length_map]; exact hi), List.getElem?_map] at e
            simp only [Option.map_eq_some_iff] at e
            obtain ⟨d, h1, h2⟩ := e
            exact .inr ⟨d, h2.symm, h1⟩
          · rw [List.getElem?_append_right (by rw [List.length_map]; omega)] at e
            exact .inl (List.eq_of_mem_replicate (List.mem_of_getElem? e))
        have R : Rl G H0 H (ds.map Slot.dat ++ List.replicate (F.names - F.nps) .un) (L2.start N vs) := by
          refine ⟨?_, s0, Sub.refl _, fun a o e _ => e, fun a o e => .inl ⟨o, e⟩, fun i s es => ?_, fun i j p hi _ => ?_, fun z hz => nomatch hz⟩
          · unfold L2.start
            rw [List.length_append, List.length_append, List.length_map, List.length_map, List.length_replicate, List.length_replicate]
            omega
          · rcases dl i s es with rfl | ⟨d, rfl, h1⟩
            · trivial
            · obtain ⟨v, h2, h3⟩ := ra.get h1
              exact ⟨v, sn i v h2, h3⟩
          · obtain ⟨⟨s, h1, h2⟩, _⟩ := hi
            rcases dl i s h1 with rfl | ⟨d, rfl, _⟩ <;> cases h2
        refine ⟨G, H0, _, o, δ1, rfl, R, e1, fun τ A H1 R1 s1 => ?_⟩
        have fin : ∀ v, RetOk K H A H1 r' v → r' = r → Q v H1 := fun v k er => by
          subst er
          exact q v A H1 s1 R1.sub (fun a o e => R1.keep a o e fun z hz => nomatch hz) R1.fro k
        have er : r' = r := by
          dsimp only at e3
          split at e3
          · rename_i hb' _
            rw [hb] at hb'
            cases hb'
          · cases e3
            rfl
          · cases e3
        cases o with
        | nx =>
          cases e2
          exact fin .non .non er
        | rt r0 =>
          cases e2
          intro v k
          refine fin v ?_ er
          cases r' with
          | dat d => exact k
          | new es =>
            obtain ⟨z, us, y1, y2, y3, y4, y5, _⟩ := k
            exact ⟨z, us, y1, y2, y3, y4, y5⟩
        | bk => cases e2
        | ct => cases e2
      · cases e
    · cases e
  · simp only [Fn.run] at e
    split at e
    · rename_i xs' hb hr
      cases hr
      split at e
      · rename_i hlen
        simp only [Option.bind_eq_some_iff] at e
        obtain ⟨δ0, e0, ⟨o, δ1⟩, e1, r', e2, e3⟩ := e
        cases e0
        let G : Gx := ⟨K, H, H0, [(0, p)]⟩
        have hvl : ws.length = ds.length := ra.length
        have dl : ∀ (i : Nat) (s : Slot), (ds.map Slot.dat ++ List.replicate (F.names - F.nps) .un)[i]? = some s → s = .un ∨ ∃ d, s = .dat d ∧ ds[i]? = some d := fun i s e => by
          by_cases hi : i < ds.length
          · rw [List.getElem?_append_left (by rw [List.length_map]; exact hi), List.getElem?_map] at e
            simp only [Option.map_eq_some_iff] at e
            obtain ⟨d, h1, h2⟩ := e
            exact .inr ⟨d, h2.symm, h1⟩
          · rw [List.getElem?_append_right (by rw [List.length_map]; omega)] at e
            exact .inl (List.eq_of_mem_replicate (List.mem_of_getElem? e))
        have R : Rl G H0 H (Slot.prm xds :: (ds.map Slot.dat ++ List.replicate (F.names - F.nps) .un)) (L2.start N (.ref p :: ws)) := by
          refine ⟨?_, s0, Sub.refl _, fun a o e _ => e, fun a o e => .inl ⟨o, e⟩, fun i s es => ?_, fun i j p' hi hj => ?_, fun z hz => ?_⟩
          · unfold L2.start
            simp only [List.length_append, List.length_cons, List.length_map, List.length_replicate]
            omega
          · cases i with
            | zero =>
              cases es
              exact ⟨p, xs, sn 0 _ rfl, List.mem_singleton.mpr rfl, hp, rx, hp0⟩
            | succ i =>
              rw [List.getElem?_cons_succ] at es
              rcases dl i s es with rfl | ⟨d, rfl, h1⟩
              · trivial
              · obtain ⟨v, h2, h3⟩ := ra.get h1
                exact ⟨v, sn (i + 1) v (by rw [List.getElem?_cons_succ]; exact h2), h3⟩
          · have zero : ∀ i, Holds (Slot.prm xds :: (ds.map Slot.dat ++ List.replicate (F.names - F.nps) .un)) (L2.start N (.ref p :: ws)) i p' → i = 0 := fun i ⟨⟨s, h1, h2⟩, _⟩ => by
              cases i with
              | zero => rfl
              | succ i =>
                rw [List.getElem?_cons_succ] at h1
                rcases dl i s h1 with rfl | ⟨d, rfl, _⟩ <;> cases h2
            rw [zero i hi, zero j hj]
          · obtain rfl := List.mem_singleton.mp hz
            exact ⟨xds, rfl, sn 0 _ rfl⟩
        refine ⟨G, H0, _, o, δ1, rfl, R, e1, fun τ A H1 R1 s1 => ?_⟩
        dsimp only at e3
        split at e3
        · rename_i ys hb' hpr
          cases e3
          obtain ⟨es, z1, z2⟩ := R1.prs (0, p) (List.mem_singleton.mpr rfl)
          have z1' : δ1[0]? = some (.prm es) := z1
          rw [hpr] at z1'
          cases z1'
          obtain ⟨p', us, w1, w0, w2, w3, w4⟩ := R1.slot 0 _ hpr
          rw [z2] at w1
          cases w1
          have fin : ∀ v, RetOk K H A H1 r v → Q v H1 := fun v k =>
            q v A H1 us s1 R1.sub (fun a o e ha => R1.keep a o e fun z hz => by
              obtain rfl := List.mem_singleton.mp hz
              exact fun h => ha h.symm) R1.fro w2 w3 w4 k
          cases o with
          | nx =>
            cases e2
            exact fin .non .non
          | rt r0 =>
            cases e2
            intro v k
            refine fin v ?_
            cases r with
            | dat d => exact k
            | new es =>
              obtain ⟨z, us, y1, y2, y3, y4, y5, _⟩ := k
              exact ⟨z, us, y1, y2, y3, y4, y5⟩
          | bk => cases e2
          | ct => cases e2
        · cases e3
        · cases e3
      · cases e
    · rename_i hb hr
      cases hr
    · cases e
theorem spI_len {F : Fn} {ps : List Str} (hl : ps.length = F.nps) {vs : List V} {H : Hp} {Q : VK} {E : XK} (h : spI K F.run vs H Q E) : vs.length = ps.length := by
  obtain ⟨H0, ds, r, s0, h⟩ := h
  rw [hl]
  rcases h with ⟨ra, e, q⟩ | ⟨p, xs, xds, yds, ws, rfl, ra, hp, rx, hp0, e, q⟩
  · simp only [Fn.run] at e
    split at e
    · rename_i hb hr
      cases hr
    · split at e
      · rename_i h
        rw [ra.length, h]
      · cases e
    · cases e
  · simp only [Fn.run] at e
    split at e
    · split at e
      · rename_i h
        rw [List.length_cons, ra.length, h]
      · cases e
    · rename_i hb hr
      cases hr
    · cases e
end
end IP
end
section
set_option Elab.async false
set_option linter.all false
set_option maxRecDepth 100000
set_option maxHeartbeats 400000
namespace IP
open PySem L2
section
variable {X : Cx} {K : PySem.W.Frag} {a b c : Expr} {f g h : Eo} {pos : Pos}
theorem flat_ints (is : List Int) : (is.map V.int).all flatV = true := by
  induction is with
  | nil => rfl
  | cons i is ih => rw [List.map_cons, List.all_cons, ih] <;> rfl
theorem in_ints (i : Int) (is : List Int) : inV (.int i) (is.map V.int) = decide (i ∈ is) := by
  unfold inV
  induction is with
  | nil => rfl
  | cons j is ih =>
    rw [List.map_cons, List.any_cons, ih]
    by_cases h : j = i
    · subst h
      have : eqV (.int j) (.int j) = true := by simp [eqV]
      rw [this]
      simp
    · have : eqV (.int j) (.int i) = false := by simp [eqV, h]
      rw [this, Bool.false_or]
      have h' : ¬ i = j := fun e => h e.symm
      simp [h']
theorem s_in : OpS K (rIn K false) bIn := by
  intro G H0 H δ σ x y dx dy res eK R rx ry e Q q
  subst eK
  unfold bIn at e
  split at e
  · simp only [Option.map_eq_some_iff] at e
    obtain ⟨is, e1, rfl⟩ := e
    obtain rfl := relT_int rx
    obtain ⟨p, xs, rfl, h1, h2⟩ := relT_list R.sub ry
    obtain rfl := h2.ints e1
    refine ⟨p, _, rfl, .inl (SqL.of h1), rfl, flat_ints _, ?_⟩
    rw [if_neg Bool.false_ne_true, in_ints]
    exact q _ _ _ R (Sub.refl _) (.bl _)
  · simp only [Option.map_eq_some_iff] at e
    obtain ⟨is, e1, rfl⟩ := e
    obtain rfl := relT_int rx
    obtain ⟨p, xs, rfl, h1, h2⟩ := relT_tup ry
    obtain rfl := h2.ints e1
    refine ⟨p, _, rfl, .inr (SqT.sub R.sub h1), rfl, flat_ints _, ?_⟩
    rw [if_neg Bool.false_ne_true, in_ints]
    exact q _ _ _ R (Sub.refl _) (.bl _)
  · cases e
theorem s_notIn : OpS K (rIn K true) bNotIn := by
  intro G H0 H δ σ x y dx dy res eK R rx ry e Q q
  subst eK
  unfold bNotIn at e
  split at e
  · simp only [Option.map_eq_some_iff] at e
    obtain ⟨is, e1, rfl⟩ := e
    obtain rfl := relT_int rx
    obtain ⟨p, xs, rfl, h1, h2⟩ := relT_list R.sub ry
    obtain rfl := h2.ints e1
    refine ⟨p, _, rfl, .inl (SqL.of h1), rfl, flat_ints _, ?_⟩
    rw [if_pos rfl, in_ints]
    exact q _ _ _ R (Sub.refl _) (.bl _)
  · simp only [Option.map_eq_some_iff] at e
    obtain ⟨is, e1, rfl⟩ := e
    obtain rfl := relT_int rx
    obtain ⟨p, xs, rfl, h1, h2⟩ := relT_tup ry
    obtain rfl := h2.ints e1
    refine ⟨p, _, rfl, .inr (SqT.sub R.sub h1), rfl, flat_ints _, ?_⟩
    rw [if_pos rfl, in_ints]
    exact q _ _ _ R (Sub.refl _) (.bl _)
  · cases e
/-- constants of the module -/
theorem x_globI {x : Str} {i : Int} (hg : Gl X x) (hm : ∃ t, X.mg x = some (.int i t)) (hdb : (x == ("__debug__" : Str)) = false := by decide) : XV X (.Name x pos) (vC (.int i)) := by
  obtain ⟨t, e⟩ := hm
  exact x_glob hg e (v := .int i) ⟨t, rfl⟩ (fun _ => .int i) hdb
theorem x_globT {x : Str} {is : List Int} {p : Addr} (hg : Gl X x) (hm : X.mg x = some (.ref p)) (ht : ∀ H, SqT X.K H p (is.map V.int)) (hdb : (x == ("__debug__" : Str)) = false := by decide) : XV X (.Name x pos) (vC (.tuple (is.map .int))) :=
  x_glob hg hm (v := .ref p) rfl (fun H => .tup (ht H) relAll_ints) hdb
/-- a chain as a test -/
theorem x_chainT {o1 o2 : CmpOp} {r1 r2 : R2} {p1 p2 : D → D → Option Res} (h1 : OpR X (compareOp o1) r1) (h2 : OpR X (compareOp o2) r2) (s1 : OpS X.K r1 p1) (s2 : OpS X.K r2 p2) (ha : XO X a f) (hb : XO X b g) (hc : XO X c h)
    (hm : lastMarks [o1, o2] [b, c] = false := by with_unfolding_all rfl) : XT X (.Compare a [o1, o2] [b, c] pos) (tB (vChain p1 p2 f g h)) :=
  (pt_chain h1 h2 ha hb hc hm).weak fun σ H Q ⟨G, H0, δ, res, δ', eK, R, e, q⟩ => by
    simp only [IP.tB, Option.bind_eq_some_iff] at e
    obtain ⟨⟨r, δ1⟩, e0, e00⟩ := e
    simp only [vChain, Option.bind_eq_some_iff] at e0
    obtain ⟨⟨o1, δ1'⟩, e1, ⟨o2, δ2⟩, e2, dx, e3, dy, e4, r', e5, e6⟩ := e0
    refine ⟨G, H0, δ, o1, δ1', eK, R, e1, fun v H0' H' R1 s1' k1 => ?_⟩
    refine ⟨G, H0', δ1', o2, δ2, eK, R1, e2, fun w H0'' H'' R2 s2' k2 => ?_⟩
    refine s1 G H0'' H'' δ2 σ v w dx dy r' eK R2 (R2.rd (k1.sub s2') e3) (R2.rd k2 e4) e5 _ fun z A B R3 s3 k3 => ?_
    cases r' with
    | new _ => cases e6
    | dat d =>
      cases d with
      | bool t =>
        cases k3
        cases t with
        | false =>
          cases e6
          cases e00
          exact ⟨false, rfl, iteF ⟨false, rfl, q A B R3 ((s1'.trans s2').trans s3)⟩⟩
        | true =>
          simp only [Option.bind_eq_some_iff, Option.map_eq_some_iff] at e6
          obtain ⟨⟨o3, δ3⟩, e7, dy', e8, dz, e9, r'', e10, e11⟩ := e6
          cases e11
          refine ⟨true, rfl, iteT ?_⟩
          refine ⟨G, A, δ2, o3, δ3, eK, R3, e7, fun u A' B' R4 s4 k4 => ?_⟩
          refine s2 G A' B' δ3 σ w u dy' dz _ eK R4 (R4.rd ((k2.sub s3).sub s4) e8) (R4.rd k4 e9) e10 _ fun z C C' R5 s5 k5 => ?_
          cases r with
          | new _ => cases e00
          | dat d =>
            cases d with
            | bool k =>
              cases e00
              cases k5
              exact ⟨_, rfl, q C C' R5 ((((s1'.trans s2').trans s3).trans s4).trans s5)⟩
            | _ => cases e00
      | _ => cases e6
end
end IP
end
section
set_option Elab.async false
set_option linter.all false
set_option maxRecDepth 100000
set_option maxHeartbeats 2000000
/-! enumerate(tuple). -/
namespace PySem
open AutoSeq1 (wpAny_loadPart')
theorem meets_enumerate_newT (l : Addr) (items : Array Value) :
    Meets (Builtin.«enumerate.__new__» ⟨[.type "enumerate", .ref l], []⟩) (fun _ R s => s.heap.IsTuple l items ∧
      R (.ok (.ret (.ref (s.heap.push { cls := .type "tuple_iterator", data := .fields #[.ref l, .int 0 0] }).objs.size)))
        { s with heap := (s.heap.push { cls := .type "tuple_iterator", data := .fields #[.ref l, .int 0 0] }).push { cls := .type "enumerate", data := .fields #[.none, .bool false, .ref s.heap.objs.size, rawInt 0, .none, .none] } }) :=
  .of_wp fun prog w A R s h => by
    obtain ⟨hp, g, d, tk, os⟩ := s; obtain ⟨hl, h⟩ := h
    have hsub := sub_enumerate
    have hL : Heap.IsTuple (Shared.heap ⟨hp, g, d, tk, os⟩) l items := hl
    wp_walk
    refine wpAny_stack_any fun st => wpAny_pure ?_
    split
    · rename_i c _ _ _ _ _
      cases (c == Value.type "enumerate")
      · wp_walk using wpAny_pyIter_tuple hL
        exact ⟨_, rfl, h⟩
      · wp_walk using wpAny_pyIter_tuple hL
        exact ⟨_, rfl, h⟩
    · wp_walk using wpAny_pyIter_tuple hL
      exact ⟨_, rfl, h⟩
section
variable {prog : Program} {w : World} {A : Around} {E : Value → Shared → Prop} {s : Shared}
theorem call_enumerate_tuple {l : Addr} {items : Array Value} {Q : Value → Shared → Prop} (hL : s.heap.IsTuple l items)
    (h : ∀ h', IsEnum h' (s.heap.objs.size + 1) s.heap.objs.size 0 .none → h'.IsTupleIter s.heap.objs.size l 0 → h'.objs.size = s.heap.objs.size + 2 →
      (∀ b o, s.heap.get? b = some o → h'.get? b = some o) → Q (.ref (s.heap.objs.size + 1)) { s with heap := h' }) :
    wpAny (model prog w) A (call (.type "enumerate") [.ref l]) Q E s := by
  refine callType_new F.called_enumerate (by decide) (F.typeCall_enumerate_1 _) (F.newCall_enumerate_1 _) (fun obj => F.args_object_init_2 obj _) F.entry_enumerate_new
    (meets_enumerate_newT l items) ⟨hL, ?_⟩
  have hz : (s.heap.push { cls := .type "tuple_iterator", data := .fields #[.ref l, .int 0 0] }).objs.size = s.heap.objs.size + 1 := Heap.size_push ..
  show _ ∧ _
  rw [hz]
  have he : IsEnum ((s.heap.push { cls := .type "tuple_iterator", data := .fields #[.ref l, .int 0 0] }).push
      { cls := .type "enumerate", data := .fields #[.none, .bool false, .ref s.heap.objs.size, rawInt 0, .none, .none] }) (s.heap.objs.size + 1) s.heap.objs.size 0 .none := by
    have := Heap.get?_push_size (s.heap.push { cls := .type "tuple_iterator", data := .fields #[.ref l, .int 0 0] })
      (o := { cls := .type "enumerate", data := .fields #[.none, .bool false, .ref s.heap.objs.size, rawInt 0, .none, .none] }) rfl
    rw [hz] at this; exact this
  refine ⟨⟨_, he, rfl⟩, h _ he ⟨_, Heap.get?_push_of_some _ (Heap.get?_push_size _ rfl), rfl, rfl⟩ (by rw [Heap.size_push, hz]) fun b o x => Heap.get?_push_of_some _ (Heap.get?_push_of_some _ x)⟩
end
end PySem
namespace L2
open PySem PySem.Spec PyProof.Rows
def IteT (K : PySem.W.Frag) (a : Addr) : It :=
  ⟨fun i H => ∃ (xs : List V) (x : V), SqT K H a xs ∧ xs[i]? = some x, fun i H v H' => ∃ T x, v = .ref T ∧ H T = none ∧ H' = upd H T (.tup [.int (i : Nat), x]) ∧ ∀ xs, SqT K H a xs → xs[i]? = some x, fun i H => ∃ xs : List V, SqT K H a xs ∧ xs.length ≤ i⟩
theorem turn_enumT {P : Program} {w : World} {K : PySem.W.Frag} {elts : List Expr} {kk : Nat} {tpos : Pos} (a e it : Addr) (hai : a ≠ it) (hae : a ≠ e) :
    Turn P w K (.Tuple elts kk tpos) (IteT K a) [e, it] e (fun i h => (∃ old, IsEnum h e it ((i : Nat) : Int) old) ∧ h.IsTupleIter it a i ∧ e ≠ it) where
  mem := by simp
  obj := fun i h st b hb => by
    obtain ⟨⟨old, he⟩, ⟨o, ho, hc, hd⟩, _⟩ := st
    have e' : b = e ∨ b = it := by simpa using hb
    rcases e' with z | z
    · rw [z]; exact ⟨_, he, fun v q => nomatch q⟩
    · rw [z]; exact ⟨o, ho, fun v q => by rw [hd] at q; cases q⟩
  keep := fun i h h' st k => let ⟨⟨old, he⟩, hi, hne⟩ := st; ⟨⟨old, k e (by simp) _ he⟩, hi.at fun o q => k it (by simp) o q, hne⟩
  item := by
    intro X hP hw hK hc i pins s σ H E I hf st hg
    subst hP hw hK
    obtain ⟨⟨old, he⟩, hit, hne⟩ := st
    obtain ⟨xs, x, hq, hx⟩ := hg
    obtain ⟨its, rv, p, hz⟩ := I.tuple hq
    obtain ⟨u, hu, ru⟩ := rv.get hx
    have hel : e < s.heap.objs.size := Heap.lt_size he
    have hil : it < s.heap.objs.size := by obtain ⟨_, q, _⟩ := hit; exact Heap.lt_size q
    have hiu : i < its.length := (List.getElem?_eq_some_iff.mp hu).1
    have hh : X.A.in1.handled = none := I.ok.hd hc
    refine wpAny_pyNext_enum_itemD (Draws.tuple (prog := X.prog) (w := X.w) (A := X.A.in1) hh it a hai its.toArray) he ⟨hit, p⟩ (by simpa using hiu) hne (by simp [hne, Ne.symm hae]) fun x' h' tk hP ho st' hT hsz hk => ?_
    have ex : x' = u := by
      have h1 : its[i]? = some x' := by simpa using hP
      rw [hu] at h1
      exact (Option.some.inj h1).symm
    subst ex
    refine ⟨_, rfl, wpAny_letOwnedTupleGo_enum (s := { s with heap := h', toks := tk + 1 }) ho fun h'' he' sb => ?_⟩
    have hT2 : h''.get? s.heap.objs.size = some { cls := .type "tuple", data := .seq #[.int i tk, x'] } := (sb.2 _ (Nat.ne_of_gt hel)).trans hT
    have new : ObjOk X.prog X.w (upd H s.heap.objs.size (.tup [.int (i : Nat), x])) h'' s.heap.objs.size (.tup [.int (i : Nat), x]) :=
      ⟨by show 2 ≤ sizeLine; decide, [.int i tk, x'], .cons ⟨_, rfl⟩ (.cons ru .nil), ⟨_, hT2, rfl, _, rfl⟩⟩
    have I1 : Inv X pins σ (upd H s.heap.objs.size (.tup [.int (i : Nat), x])) { s with heap := h'', toks := tk + 1 } :=
      I.turnedNew (t' := tk + 1) (ch := [e, it]) (fun b ob hb q => (sb.2 b (fun z => hb (by simp [z]))).trans (hk b ob (fun z => hb (by simp [z])) (fun z => hb (by simp [z])) q)) hf (Nat.le_refl _) new
    refine ⟨.ref s.heap.objs.size, _, I1, rfl, ⟨_, x, rfl, I.hok.fresh (Nat.le_refl _), rfl, fun ys hy => by rw [I.tuple_inj hy hq]; exact hx⟩, ⟨⟨x', ?_⟩, st'.1.at fun o q => (sb.2 it (Ne.symm hne)).trans q, hne⟩, fun b hb => ?_⟩
    · have e1 : ((i + 1 : Nat) : Int) = (i : Int) + 1 := by omega
      rw [e1]; exact he'
    · have hb' : b < s.heap.objs.size := by
        have e' : b = e ∨ b = it := by simpa using hb
        rcases e' with z | z
        · rw [z]; exact hel
        · rw [z]; exact hil
      rw [upd_ne (Nat.ne_of_lt hb')]
      exact (hf b hb).1
  done := by
    intro X hP hw hK hc i pins s σ H E I hf st hg
    subst hP hw hK
    obtain ⟨⟨old, he⟩, hit, hne⟩ := st
    obtain ⟨xs, hq, hx⟩ := hg
    obtain ⟨its, rv, p, hz⟩ := I.tuple hq
    obtain ⟨f0, f1, f2, f3, f4, f5⟩ := hf it (by simp)
    have hl := rv.length
    have hT : s.TypeIs (.ref e) "enumerate" := ⟨_, he, rfl⟩
    unfold pyNext
    refine wpAny_bind (wpAny_attempt (wpAny_callSpecial?_slot (name := Str.ofString "__next__") hT PySem.F.slot_enumerate_next
      (wpAny_call_entry PySem.F.slot_enumerate_next hT PySem.F.entry_enumerate_next ?_ (PySem.F.args_enumerate_next_1 _))))
    show wpAny _ _ (field (.ref e) 2 >>= _) _ _ _
    refine wpAny_bind (wpAny_field he rfl (x := .ref it) rfl ?_)
    refine wpAny_bind (wpAny_nextOf_tuple_end (I.ok.hd hc) hit p (by simp; omega) fun h' x he' hx' => ?_)
    obtain ⟨o, ho, hc⟩ := hx'
    refine wpAny_bind (wpAny_isInstance (T := "StopIteration") (b := true) ⟨o, ho, hc⟩ isSubtype_stop ?_)
    exact wpAny_pure ⟨rfl, I.turned (t' := s.toks) (fun b o hb q => he' b o hb q) f0 f1 f3 f4 f5⟩
  self := fun A i s Q E st h => let ⟨⟨_, he⟩, _⟩ := st; wpAny_pyIter_enum he h
def iEnumT (K : PySem.W.Frag) (ta : TA) : TI := fun σ H R => ta σ H fun vs H1 => ∃ a xs, vs = [.ref a] ∧ SqT K H1 a xs ∧ R (IteT K a) H1
theorem pi_enumT {X : Cx} {e : Expr} {ta : TA} {p pos tpos : Pos} {elts : List Expr} {kk : Nat} (hg : Gl X "enumerate") (hm : X.mg "enumerate" = none) (ha : PA X [e] ta) (hs : starEach [e] X.env = [(false, eval e X.env)] := by rfl) :
    PI X (.Tuple elts kk tpos) (.Call (.Name "enumerate" p) [e] [] pos) (iEnumT X.K ta) := by
  refine ⟨fun pins s σ H R I h => ?_⟩
  refine Call_ (ld_blt I hg hm boot_enumerate (PyProof.Rows.callWith_type1 (thn (ha.run pos pins s σ H _ I h) fun us s1 ⟨vs, H1, I1, r1, q1⟩ => ?_) hs rfl))
  obtain ⟨a, xs, ex, hq, q⟩ := q1
  subst ex
  cases r1 with
  | cons r rr =>
    cases rr
    cases r
    obtain ⟨its, rv, p', hz⟩ := I1.tuple hq
    have hal : a < s1.heap.objs.size := by obtain ⟨_, q, _⟩ := p'; exact Heap.lt_size q
    refine call_enumerate_tuple (items := its.toArray) p' fun h' he hit hsz hk => wpAny_pyIter_enum he ?_
    have I2 : Inv X pins σ H1 { s1 with heap := h' } := I1.kept (t' := s1.toks) hk
    refine ⟨s1.heap.objs.size + 1, [s1.heap.objs.size + 1, s1.heap.objs.size], _, _, H1, rfl, I2, turn_enumT a (s1.heap.objs.size + 1) s1.heap.objs.size (Nat.ne_of_lt hal) (Nat.ne_of_lt (Nat.lt_succ_of_lt hal)), ⟨⟨.none, he⟩, hit, Nat.succ_ne_self _⟩, fun b hb => ?_, q⟩
    have e' : b = s1.heap.objs.size + 1 ∨ b = s1.heap.objs.size := by simpa using hb
    have hle : s1.heap.objs.size ≤ b := by
      rcases e' with z | z
      · rw [z]; exact Nat.le_add_right _ _
      · rw [z]; exact Nat.le_refl _
    exact I1.fpOk hle (I1.hok.fresh hle)
end L2
end
section
set_option Elab.async false
set_option linter.all false
set_option maxRecDepth 100000
set_option maxHeartbeats 400000
namespace IP
open PySem L2 RZ
section
variable {X : Cx} {K : PySem.W.Frag} {tg e e2 : Expr} {f g : Eo} {pos p : Pos}
theorem pair_laid {G : Gx} {A H : Hp} {δ : Env} {τ : L2.St} {T : Addr} {x y : V} {dx dy : D} (R : Rl G A H δ τ) (hT : H T = none) (r1 : Rel G.K A x dx) (r2 : Rel G.K A y dy) :
    ∃ B, Rl G B (upd H T (.tup [x, y])) δ τ ∧ Sub A B ∧ Sub H (upd H T (.tup [x, y])) ∧ Fro A H B ∧ Rel G.K B (.ref T) (.tuple [dx, dy]) := by
  obtain ⟨R4, s4⟩ := R.laid0 (o := .tup [x, y]) hT
  refine ⟨_, R4, s4, Sub.new hT, fun a o e => ?_, .tup (SqT.of upd_same) (.cons (r1.sub s4) (.cons (r2.sub s4) .nil))⟩
  by_cases ha : a = T
  · subst ha
    exact .inr hT
  · rw [upd_ne ha] at e
    exact .inl ⟨o, e⟩
theorem enumD_get : ∀ {xs : List D} {k i : Nat}, (enumD k xs)[i]? = (xs[i]?).map fun d => .tuple [.int ((k + i : Nat) : Int), d]
  | [], _, i => by simp [enumD]
  | x :: xs, k, 0 => by simp [enumD]
  | x :: xs, k, i + 1 => by
    rw [enumD, List.getElem?_cons_succ, List.getElem?_cons_succ, enumD_get]
    rw [show k + 1 + i = k + (i + 1) by omega]
theorem enumD_length : ∀ (xs : List D) (k : Nat), (enumD k xs).length = xs.length
  | [], _ => rfl
  | x :: xs, k => by rw [enumD, List.length_cons, List.length_cons, enumD_length xs]
theorem iw_enumT {G : Gx} {H0 : Hp} {σ : L2.St} {p : Addr} {ys : List V} {xs : List D} (h : SqT G.K H0 p ys) (r : RelAll G.K H0 ys xs) {ow : Option Nat} : IW G H0 σ (IteT G.K p) (enumD 0 xs) ow where
  goes := fun i A H δ τ R s hk st hi => by
    have hl : i < ys.length := by
      rw [enumD_length] at hi
      rw [r.length]
      exact hi
    exact ⟨ys, ys[i], SqT.sub R.sub (SqT.sub s h), by simp [hl]⟩
  stops := fun A H δ τ R s hk st => ⟨ys, SqT.sub R.sub (SqT.sub s h), by rw [enumD_length, r.length]; exact Nat.le_refl _⟩
  yields := fun i A H δ τ x H' R s hk st hi y => by
    obtain ⟨T, z, rfl, hT, rfl, hz⟩ := y
    obtain ⟨d, h1, h2⟩ := r.getV (hz ys (SqT.sub R.sub (SqT.sub s h)))
    obtain ⟨B, a1, a2, a3, a4, a5⟩ := pair_laid R hT (.int ((i : Nat) : Int)) (h2.sub s)
    exact ⟨B, _, a1, a2, a3, a4, by rw [enumD_get, h1, Nat.zero_add]; rfl, a5⟩
theorem still_len {δ : Env} {xs : List D} {ow : Option Nat} (h : still δ (enumD 0 xs) ow = true) (hn : ow = none) : still δ xs ow = true := by
  subst hn
  rfl
theorem iw_enumL {G : Gx} {H0 : Hp} {σ : L2.St} {p : Addr} {xs : List D} (h : Rel G.K H0 (.ref p) (.list xs)) : IW G H0 σ (Ite G.K p) (enumD 0 xs) none where
  goes := fun i A H δ τ R s hk st hi => by
    cases h with
    | lst h1 h2 =>
      rename_i ys
      have hl : i < ys.length := by
        rw [enumD_length] at hi
        rw [h2.length]
        exact hi
      exact ⟨ys, ys[i], SqL.of (R.sub _ _ (s _ _ h1)), by simp [hl]⟩
  stops := fun A H δ τ R s hk st => by
    cases h with
    | lst h1 h2 => exact ⟨_, SqL.of (R.sub _ _ (s _ _ h1)), by rw [enumD_length, h2.length]; exact Nat.le_refl _⟩
  yields := fun i A H δ τ x H' R s hk st hi y => by
    cases h with
    | lst h1 h2 =>
      obtain ⟨T, z, rfl, hT, rfl, hz⟩ := y
      obtain ⟨d, h3, h4⟩ := h2.getV (hz _ (SqL.of (R.sub _ _ (s _ _ h1))))
      obtain ⟨B, a1, a2, a3, a4, a5⟩ := pair_laid R hT (.int ((i : Nat) : Int)) (h4.sub s)
      exact ⟨B, _, a1, a2, a3, a4, by rw [enumD_get, h3, Nat.zero_add]; rfl, a5⟩
/-- enumerate(e), e data -/
theorem xi_enum {elts : List Expr} {kk : Nat} {tpos : Pos} (hg : Gl X "enumerate") (hm : X.mg "enumerate" = none) (ha : XO X e f) (hs : starEach [e] X.env = (false, eval e X.env) :: starEach [] X.env := by rfl) : XI X (.Tuple elts kk tpos) (.Call (.Name "enumerate" p) [e] [] pos) (iEnum f) :=
  PI.or_ (pi_enum hg hm (pa_cons ha pa_nil hs) hs) (pi_enumT hg hm (pa_cons ha pa_nil hs) hs) fun σ H Rr ⟨G, H0, δ, xs, ow, δ', eK, R, e0, q⟩ => by
    simp only [iEnum, Option.bind_eq_some_iff] at e0
    obtain ⟨⟨o, δ1⟩, e1, e2⟩ := e0
    cases o with
    | «at» i => cases e2
    | val d =>
      cases d with
      | list ds =>
        cases e2
        refine .inl ⟨G, H0, δ, _, _, eK, R, e1, fun v H0' H' R1 s1 k1 => ?_⟩
        have k1' : Rel G.K H0' v (.list ds) := k1
        cases k1' with
        | lst h1 h2 => exact ⟨_, _, rfl, SqL.of (R1.sub _ _ h1), by rw [← eK]; exact q _ _ _ R1 s1 (iw_enumL (.lst h1 h2))⟩
      | tuple ds =>
        cases e2
        refine .inr ⟨G, H0, δ, _, _, eK, R, e1, fun v H0' H' R1 s1 k1 => ?_⟩
        have k1' : Rel G.K H0' v (.tuple ds) := k1
        cases k1' with
        | tup h1 h2 => exact ⟨_, _, rfl, by rw [← eK]; exact SqT.sub R1.sub h1, by rw [← eK]; exact q _ _ _ R1 s1 (iw_enumT h1 h2)⟩
      | _ => cases e2
theorem zipD_get : ∀ {xs ys : List D} {i : Nat}, (zipD xs ys)[i]? = (xs[i]?).bind fun x => (ys[i]?).map fun y => .tuple [x, y]
  | [], ys, i => by simp [zipD]
  | x :: xs, [], i => by
    rw [zipD]
    · cases (x :: xs)[i]? <;> simp
    · simp
  | x :: xs, y :: ys, 0 => by simp [zipD]
  | x :: xs, y :: ys, i + 1 => by rw [zipD, List.getElem?_cons_succ, List.getElem?_cons_succ, List.getElem?_cons_succ, zipD_get]
theorem zipD_length : ∀ (xs ys : List D), (zipD xs ys).length = min xs.length ys.length
  | [], ys => by simp [zipD]
  | x :: xs, [] => by simp [zipD]
  | x :: xs, y :: ys => by
    rw [zipD, List.length_cons, List.length_cons, List.length_cons, zipD_length xs ys]
    omega
theorem iw_zipT {G : Gx} {H0 : Hp} {σ : L2.St} {p q : Addr} {us vs : List V} {xs ys : List D} (h1 : SqT G.K H0 p us) (r1 : RelAll G.K H0 us xs) (h2 : SqT G.K H0 q vs) (r2 : RelAll G.K H0 vs ys) : IW G H0 σ (ItzT G.K p q) (zipD xs ys) none where
  goes := fun i A H δ τ R s hk st hi => by
    rw [zipD_length] at hi
    have l1 := r1.length
    have l2 := r2.length
    exact ⟨us, vs, us[i], vs[i], SqT.sub R.sub (SqT.sub s h1), SqT.sub R.sub (SqT.sub s h2), by simp, by simp⟩
  stops := fun A H δ τ R s hk st => ⟨us, vs, SqT.sub R.sub (SqT.sub s h1), SqT.sub R.sub (SqT.sub s h2), by
    rw [zipD_length, r1.length, r2.length]
    omega⟩
  yields := fun i A H δ τ x H' R s hk st hi y => by
    obtain ⟨T, z, w, rfl, hT, rfl, hz, hw⟩ := y
    obtain ⟨d, a1, a2⟩ := r1.getV (hz us (SqT.sub R.sub (SqT.sub s h1)))
    obtain ⟨d', b1, b2⟩ := r2.getV (hw vs (SqT.sub R.sub (SqT.sub s h2)))
    obtain ⟨B, c1, c2, c3, c4, c5⟩ := pair_laid R hT (a2.sub s) (b2.sub s)
    exact ⟨B, _, c1, c2, c3, c4, by rw [zipD_get, a1, b1]; rfl, c5⟩
theorem iw_zipL {G : Gx} {H0 : Hp} {σ : L2.St} {p q : Addr} {xs ys : List D} (h1 : Rel G.K H0 (.ref p) (.list xs)) (h2 : Rel G.K H0 (.ref q) (.list ys)) : IW G H0 σ (Itz G.K p q) (zipD xs ys) none := by
  cases h1 with
  | lst h1 r1 =>
    cases h2 with
    | lst h2 r2 =>
      rename_i us vs
      exact {
        goes := fun i A H δ τ R s hk st hi => by
          rw [zipD_length] at hi
          have l1 := r1.length
          have l2 := r2.length
          exact ⟨us, vs, us[i], vs[i], SqL.of (R.sub _ _ (s _ _ h1)), SqL.of (R.sub _ _ (s _ _ h2)), by simp, by simp⟩
        stops := fun A H δ τ R s hk st => ⟨us, vs, SqL.of (R.sub _ _ (s _ _ h1)), SqL.of (R.sub _ _ (s _ _ h2)), by
          rw [zipD_length, r1.length, r2.length]
          omega⟩
        yields := fun i A H δ τ x H' R s hk st hi y => by
          obtain ⟨T, z, w, rfl, hT, rfl, hz, hw⟩ := y
          obtain ⟨d, a1, a2⟩ := r1.getV (hz us (SqL.of (R.sub _ _ (s _ _ h1))))
          obtain ⟨d', b1, b2⟩ := r2.getV (hw vs (SqL.of (R.sub _ _ (s _ _ h2))))
          obtain ⟨B, c1, c2, c3, c4, c5⟩ := pair_laid R hT (a2.sub s) (b2.sub s)
          exact ⟨B, _, c1, c2, c3, c4, by rw [zipD_get, a1, b1]; rfl, c5⟩ }
theorem xi_zip {elts : List Expr} {kk : Nat} {tpos : Pos} (hg : Gl X "zip") (hm : X.mg "zip" = none) (ha : XO X e f) (hb : XO X e2 g) (hs : starEach [e, e2] X.env = (false, eval e X.env) :: starEach [e2] X.env := by rfl) (hs2 : starEach [e2] X.env = (false, eval e2 X.env) :: starEach [] X.env := by rfl)
    (h3 : (backTo pos (starEach [e2] X.env)).any (·.1) = false := by rfl) :
    XI X (.Tuple elts kk tpos) (.Call (.Name "zip" p) [e, e2] [] pos) (iZip f g) :=
  (pi_zipA hg hm (pa_cons ha (pa_cons hb pa_nil hs2) hs) hs h3).weak fun σ H Rr ⟨G, H0, δ, xs, ow, δ', eK, R, e0, q⟩ => by
    simp only [iZip, Option.bind_eq_some_iff] at e0
    obtain ⟨⟨o, δ1⟩, e1, ⟨o2, δ2⟩, e2, e3⟩ := e0
    refine ⟨G, H0, δ, o, δ1, eK, R, e1, fun v H0' H' R1 s1 k1 => ?_⟩
    refine ⟨G, H0', δ1, o2, δ2, eK, R1, e2, fun w A B R2 s2 k2 => ?_⟩
    dsimp only at e3
    split at e3
    · cases e3
      have k1' : Rel G.K A v (.list _) := Rel.sub s2 k1
      have k2' : Rel G.K A w (.list _) := k2
      cases k1' with
      | lst h1 r1 =>
        rename_i p1 us
        cases k2' with
        | lst h2 r2 =>
          rename_i p2 vs
          refine ⟨p1, p2, us, vs, rfl, .inl ⟨SqL.of (R2.sub _ _ h1), SqL.of (R2.sub _ _ h2), ?_⟩⟩
          rw [← eK]
          exact q _ _ _ R2 (s1.trans s2) (iw_zipL (.lst h1 r1) (.lst h2 r2))
    · cases e3
      have k1' : Rel G.K A v (.tuple _) := Rel.sub s2 k1
      have k2' : Rel G.K A w (.tuple _) := k2
      cases k1' with
      | tup h1 r1 =>
        rename_i p1 us
        cases k2' with
        | tup h2 r2 =>
          rename_i p2 vs
          refine ⟨p1, p2, us, vs, rfl, .inr ⟨?_, ?_, ?_⟩⟩
          · rw [← eK]
            exact SqT.sub R2.sub h1
          · rw [← eK]
            exact SqT.sub R2.sub h2
          · rw [← eK]
            exact q _ _ _ R2 (s1.trans s2) (iw_zipT h1 r1 h2 r2)
    · cases e3
theorem downD_get {hi : Int} {n i : Nat} (h : i < n) : (downD hi n)[i]? = some (.int (hi - (i : Nat))) := by
  unfold downD
  simp [h]
theorem downD_length (hi : Int) (n : Nat) : (downD hi n).length = n := by
  unfold downD
  simp
theorem iw_down {G : Gx} {H0 : Hp} {σ : L2.St} {hi : Int} {n : Nat} : IW G H0 σ (Itc hi (-1) n) (downD hi n) none where
  goes := fun i A H δ τ R s hk st h => by
    rw [downD_length] at h
    exact h
  stops := fun A H δ τ R s hk st => by
    rw [downD_length]
    exact Nat.le_refl n
  yields := fun i A H δ τ x H' R s hk st h y => by
    obtain ⟨rfl, rfl⟩ := y
    rw [downD_length] at h
    refine ⟨A, _, R, Sub.refl _, Sub.refl _, Fro.refl, downD_get h, ?_⟩
    rw [show hi + (i : Int) * -1 = hi - (i : Int) by omega]
    exact .int _
/-- range(a, b, -1) -/
theorem xi_down {a b : Expr} {u : Nat} {p1 p2 : Pos} (hg : Gl X "range") (hm : X.mg "range" = none) (ha : XO X a f) (hb : XO X b g)
    (hs : starEach [a, b, .UnaryOp .USub (.Constant (.int 1) u p1) p2] X.env = (false, eval a X.env) :: starEach [b, .UnaryOp .USub (.Constant (.int 1) u p1) p2] X.env := by rfl)
    (hs2 : starEach [b, .UnaryOp .USub (.Constant (.int 1) u p1) p2] X.env = (false, eval b X.env) :: starEach [.UnaryOp .USub (.Constant (.int 1) u p1) p2] X.env := by rfl)
    (hs3 : starEach [.UnaryOp .USub (.Constant (.int 1) u p1) p2] X.env = (false, eval (.UnaryOp .USub (.Constant (.int 1) u p1) p2) X.env) :: starEach [] X.env := by rfl)
    (h4 : (backTo pos (starEach [b, .UnaryOp .USub (.Constant (.int 1) u p1) p2] X.env)).any (·.1) = false := by rfl) :
    XI X tg (.Call (.Name "range" p) [a, b, .UnaryOp .USub (.Constant (.int 1) u p1) p2] [] pos) (iDown f g) :=
  (pi_range3 hg hm (pa_cons ha (pa_cons hb (pa_cons (pe_un un_neg pe_int) pa_nil hs3) hs2) hs) hs h4).weak fun σ H Rr ⟨G, H0, δ, xs, ow, δ', eK, R, e0, q⟩ => by
    simp only [iDown, Option.bind_eq_some_iff] at e0
    obtain ⟨⟨o, δ1⟩, e1, ⟨o2, δ2⟩, e2, e3⟩ := e0
    refine ⟨G, H0, δ, o, δ1, eK, R, e1, fun v H0' H' R1 s1 k1 => ?_⟩
    refine ⟨G, H0', δ1, o2, δ2, eK, R1, e2, fun w A B R2 s2 k2 => ?_⟩
    cases o with
    | «at» i => cases e3
    | val d =>
      cases d with
      | int j =>
        cases o2 with
        | «at» i => cases e3
        | val d =>
          cases d with
          | int l =>
            dsimp only at e3
            split at e3
            · rename_i hj
              cases e3
              cases k1
              cases k2
              exact ⟨1, rfl, j, l, -1, (j - l).toNat, rfl, RgC.neg (by omega) (by omega) (by omega) (by omega), q _ _ _ R2 (s1.trans s2) iw_down⟩
            · cases e3
          | _ => cases e3
      | _ => cases e3
end
end IP
end
section
set_option Elab.async false
set_option linter.all false
set_option maxRecDepth 100000
set_option maxHeartbeats 400000
namespace IP
open PySem L2
theorem spI_none {K : PySem.W.Frag} {vs : List V} {H : Hp} {Q : VK} {E : XK} (h : spI K (fun _ _ => none) vs H Q E) : False := by
  obtain ⟨_, _, _, _, h⟩ := h
  rcases h with ⟨_, e, _⟩ | ⟨_, _, _, _, _, _, _, _, _, _, e, _⟩
  · cases e
  · cases e
theorem fn_none {P : Program} {w : World} {K : PySem.W.Frag} {mg : Str → Option Value} {base : Heap} {f : Addr} {fd : FuncData} {ps : List Str} : FnOk P w K mg base CX0 0 f fd ps (spI K fun _ _ => none) :=
  ⟨fun vs H Q E h => (spI_none h).elim, fun A outer s H args us vs Q E _ _ _ _ h => (spI_none h).elim⟩
theorem law_end {K : PySem.W.Frag} {c : Fnc} {H : Hp} {a : Addr} {ns : List Int} {E : XK} (hS : SqL K H a (ns.map V.int)) (h : c none [scr ns] = some (.dat (.bool true), none)) : spI K c [.ref a] H (fun v _ => v = .bl true) E :=
  ⟨H, _, _, Sub.refl _, .inl ⟨.cons (.scr hS) .nil, h, fun v H0' H' _ _ _ _ k => by
    cases k
    rfl⟩⟩
end IP
/-! ### the head's hook, with one Bool more -/
namespace IPL
open PySem PySem.Spec PyProof.Rows L2 IP
def obsE (n : Nat) (fa : List He.Fa) (fn : List He.DefD) (ex : PySem.W.Frag → Bool) (g : Addr → Option Obj) : He.AlD × Bool := (He.obsD fa fn (He.frG g (He.asD g n)), ex (He.frG g (He.asD g n)))
def hookE (n : Nat) (fa : List He.Fa) (fn : List He.DefD) (ex : PySem.W.Frag → Bool) : PySem.W.Hook where
  α := He.AlD × Bool
  obs := fun s => obsE n fa fn ex s.heap.get?
  val := fun _ => (He.valD fn, true)
  says := fun _ h => ∃ K : PySem.W.Frag, K.In h ∧ He.SaysD fa fn K ∧ ex K = true
  of := fun _ _ e => ⟨_, He.frG_in, congrArg (fun z : He.AlD × Bool => z.1) e, congrArg (fun z : He.AlD × Bool => z.2) e⟩
  keeps := fun _ _ _ ⟨K, hK, c⟩ k => ⟨K, PySem.W.Frag.In.keeps hK k, c⟩
theorem obsE_eq {n : Nat} {fa : List He.Fa} {fn : List He.DefD} {ex : PySem.W.Frag → Bool} {g : Addr → Option Obj} {s : Shared} (h : ∀ a, g a = s.heap.get? a) : obsE n fa fn ex g = (hookE n fa fn ex).obs s := by
  have e : g = s.heap.get? := funext h
  rw [e] <;> rfl
end IPL
end
section
set_option linter.all false
/-! AugD: x[i] op= e, as a total function. -/
namespace IP
open PySem
/-- the item of the list of a variable -/
@[simp] def ownGet (δ : Env) (i : Nat) (k : Int) : Option D := match δ[i]? with
  | some (.own xs) => atD xs k
  | some (.prm xs) => atD xs k
  | _ => none
/-- x[i] op= e, of ints: the place, the item, e, the store -/
@[simp] def sAugIx (i : Nat) (ix : Eo) (op : Int → Int → Int) (f : Eo) : Es := fun δ => (if ownAt δ i = true then ix δ else none).bind fun q => match q.1 with
  | .val (.int k) => (ownGet q.2 i k).bind fun d => match d with
    | .int a => (f q.2).bind fun p => match p.1 with
      | .val (.int b) => (withOwn p.2 i fun xs => (ixN xs.length k).map fun j => xs.set j (.int (op a b))).map fun δ' => (.nx, δ')
      | _ => none
    | _ => none
  | _ => none
end IP
end
section
set_option Elab.async false
set_option linter.all false
set_option maxRecDepth 100000
set_option maxHeartbeats 400000
/-! Snd12: x[i] op= e. -/
namespace L2
open PySem PySem.Spec PyProof.Rows
theorem get_list {X : Cx} : PGet X (rIxL X.K) := by
  intro pins s σ H x y v u Q I rx ry h
  obtain ⟨p, xs, i, z, rfl, rfl, hq, he, q⟩ := h
  cases rx
  obtain ⟨t, rfl⟩ := ry
  obtain ⟨its, r, pl, hz⟩ := I.list hq
  obtain ⟨j, h1, h2, h3, h4, h5⟩ := atI_get he
  obtain ⟨w, ew, rw'⟩ := r.get h2
  have hl := r.length
  have hn := line63
  have fin : EP X pins σ Q w s := ⟨z, H, I, rw', q⟩
  by_cases h0 : 0 ≤ i
  · have hj : i.toNat = j := by
      rw [seqIndex_of h0 h5] at h1
      exact Option.some.inj h1
    exact wpAny_getItem_list pl.isList h0 (by omega) (by rw [hj]; simpa using ew) fin
  · have hj : (i + (its.toArray.size : Int)).toNat = j := by
      rw [seqIndex_neg (by omega) h4] at h1
      rw [List.size_toArray, ← hl]
      exact Option.some.inj h1
    exact wpAny_getItem_list_neg pl.isList (by omega) (by rw [List.size_toArray] <;> omega) (by omega) (by rw [hj]; simpa using ew) fin
end L2
namespace IP
open PySem L2
section
variable {X : Cx} {K : PySem.W.Frag} {e : Expr} {f g : Eo} {pos : Pos}
theorem ownGet_at {G : Gx} {A H : Hp} {δ : Env} {σ : L2.St} {i : Nat} {k : Int} {d : D} {p : Addr} (R : Rl G A H δ σ) (e : ownGet δ i k = some d) (hp : σ[i]? = some (some (.ref p))) : ∃ ws u, H p = some (.lst ws) ∧ atI ws k = some u ∧ Rel G.K A u d := by
  unfold ownGet at e
  cases es : δ[i]? with
  | none =>
    rw [es] at e
    cases e
  | some s =>
    rw [es] at e
    have sj := R.slot i s es
    cases s with
    | own ds =>
      obtain ⟨p', vs, h1, h2, h3⟩ := sj
      rw [hp] at h1
      cases h1
      obtain ⟨u, h4, h5⟩ := atD_rel h3.1 e
      exact ⟨vs, u, h2, h4, h5⟩
    | prm ds =>
      obtain ⟨p', vs, h1, _, h2, h3⟩ := sj
      rw [hp] at h1
      cases h1
      obtain ⟨u, h4, h5⟩ := atD_rel h3.1 e
      exact ⟨vs, u, h2, h4, h5⟩
    | _ => cases e
theorem xs_augIx {i : Nat} {y : Str} {py tp : Pos} {ie : Expr} {op : Operator} {b : Int → Int → Int} (hv : PE X (.Name y py) (tVar i)) (hi : XO X ie g) (h : XO X e f) (ho : PIp X op (ipI b))
    (ha : ∀ ov iv new, augStore ie ov iv new = (do holding [new, ov, iv] (setItem ov iv new); release [new, ov, iv] []; pure .next) := by intros; rfl) :
    XS X (.AugAssign (.Subscript (.Name y py) ie tp) op e pos) (sAugIx i g b f) :=
  (ps_augS hv hi get_list h ho set_list ha).weak fun D σ H ⟨G, H0, δ, o, δ', eK, R, e, q⟩ => by
    simp only [sAugIx, Option.bind_eq_some_iff] at e
    obtain ⟨⟨o2, δ2⟩, e1, e3⟩ := e
    split at e1
    · rename_i hown
      obtain ⟨p, vs, hp, hl⟩ := own_ref R hown
      refine ⟨.ref p, hp, G, H0, δ, o2, δ2, eK, R, e1, fun w A2 H2 R2 s2 k2 => ?_⟩
      cases o2 with
      | «at» _ => cases e3
      | val d2 =>
        cases d2 with
        | int k =>
          cases k2
          simp only [Option.bind_eq_some_iff] at e3
          obtain ⟨d, e4, e5⟩ := e3
          cases d with
          | int a =>
            simp only [Option.bind_eq_some_iff] at e5
            obtain ⟨⟨o3, δ3⟩, e6, e7⟩ := e5
            obtain ⟨ws, u, x1, x2, x3⟩ := ownGet_at R2 e4 hp
            cases x3
            refine ⟨p, ws, k, .int a, rfl, rfl, SqL.of x1, x2, G, A2, δ2, o3, δ3, eK, R2, e6, fun w3 A3 H3 R3 s3 k3 => ?_⟩
            cases o3 with
            | «at» _ => cases e7
            | val d3 =>
              cases d3 with
              | int c =>
                cases k3
                simp only [Option.map_eq_some_iff] at e7
                obtain ⟨δ4, e8, e9⟩ := e7
                cases e9
                obtain ⟨p', xs, ws', ys, y1, y2, y3, y4, y5⟩ := withOwn_at R3 e8
                rw [hp] at y1
                cases y1
                simp only [Option.map_eq_some_iff] at y4
                obtain ⟨j, y6, y7⟩ := y4
                subst y7
                refine ⟨a, c, rfl, rfl, p, ws', k, j, rfl, rfl, y2, by rw [y3.length]; exact y6, ?_⟩
                exact q σ A3 _ (y5 _ (RelAll.set (.int _) j y3)) (s2.trans s3)
              | _ => cases e7
          | _ => cases e5
        | _ => cases e3
    · cases e1
end
end IP
end
section
set_option Elab.async false
set_option linter.all false
set_option maxRecDepth 100000
set_option maxHeartbeats 400000
/-! Snd13: reversed(range(n)). -/
namespace IP
open PySem L2 RZ
section
variable {X : Cx} {K : PySem.W.Frag} {tg e : Expr} {f : Eo} {pos p p2 pos2 : Pos}
theorem xi_revR1 (hg : Gl X "reversed") (hm : X.mg "reversed" = none) (hg2 : Gl X "range") (hm2 : X.mg "range" = none) (ha : XO X e f)
    (hs : starEach [e] X.env = (false, eval e X.env) :: starEach [] X.env := by rfl)
    (hs2 : starEach [.Call (.Name "range" p2) [e] [] pos2] X.env = (false, eval (.Call (.Name "range" p2) [e] [] pos2) X.env) :: starEach [] X.env := by rfl) :
    XI X tg (.Call (.Name "reversed" p) [.Call (.Name "range" p2) [e] [] pos2] [] pos) (iRevR1 f) :=
  (pi_revR hg hm (prg_1 hg2 hm2 ha hs) hs2).weak fun σ H Rr ⟨G, H0, δ, xs, ow, δ', eK, R, e0, q⟩ => by
    simp only [iRevR1, Option.bind_eq_some_iff] at e0
    obtain ⟨⟨o, δ1⟩, e1, e2⟩ := e0
    refine ⟨G, H0, δ, o, δ1, eK, R, e1, fun v H0' H' R1 s1 k1 => ?_⟩
    cases o with
    | «at» i => cases e2
    | val d =>
      cases d with
      | int j =>
        dsimp only at e2
        split at e2
        · rename_i hj
          cases e2
          cases k1
          refine ⟨j, rfl, by omega, by omega, by omega, by omega, ?_⟩
          rw [show (0 : Int) + (((j - 0).toNat : Nat) : Int) - 1 = (j.toNat : Int) - 1 by omega, show (j - 0).toNat = j.toNat by omega]
          exact q _ _ _ R1 s1 iw_down
        · cases e2
      | _ => cases e2
end
end IP
end
section
set_option linter.all false
/-! Lem: reckoning with IP. -/
namespace IPL
open IP
open PySem (PyData)
abbrev iT (xs : List Int) : D := .tuple (xs.map .int)
abbrev iL (xs : List Int) : D := .list (xs.map .int)
@[simp] theorem intsOf_map (xs : List Int) : intsOf (xs.map .int) = some xs := by
  induction xs with
  | nil => rfl
  | cons x xs ih => simp [intsOf, ih]
@[simp] theorem boolsOf_map (xs : List Bool) : boolsOf (xs.map .bool) = some xs := by
  induction xs with
  | nil => rfl
  | cons x xs ih => simp [boolsOf, ih]
@[simp] theorem intsOf_comp {α : Type} (f : α → Int) (xs : List α) : intsOf (xs.map (PyData.int ∘ f)) = some (xs.map f) := by
  rw [← List.map_map, intsOf_map]
@[simp] theorem intsOf_fun {α : Type} (f : α → Int) (xs : List α) : intsOf (xs.map fun x => PyData.int (f x)) = some (xs.map f) := intsOf_comp f xs
@[simp] theorem boolsOf_comp {α : Type} (f : α → Bool) (xs : List α) : boolsOf (xs.map (PyData.bool ∘ f)) = some (xs.map f) := by
  rw [← List.map_map, boolsOf_map]
@[simp] theorem boolsOf_fun {α : Type} (f : α → Bool) (xs : List α) : boolsOf (xs.map fun x => PyData.bool (f x)) = some (xs.map f) := boolsOf_comp f xs
@[simp] theorem same_ints (xs : List Int) : sameAll (xs.map .int) (xs.map .int) = true := by
  induction xs with
  | nil => simp [sameAll]
  | cons x xs ih => simp [sameAll, same, ih]
/-! ### comprehensions -/
@[simp] def lcTurn (vs : List Nat) (g : Tg) (t : Et) (e : Ev) (x : D) (δ : Env) : Option (Option D × Env) := (g.put x δ).bind fun δ1 => (t δ1).bind fun p => if p.1 = true then
    (e p.2).bind fun r => (unAll vs r.2).map fun δ2 => (some r.1.toD, δ2)
  else (unAll vs p.2).map fun δ2 => (none, δ2)
theorem lcGo_cons {vs : List Nat} {g : Tg} {t : Et} {e : Ev} {src : List D} {ow : Option Nat} {x : D} {xs : List D} {δ : Env} (h : still δ src ow = true) :
    lcGo vs g t e src ow (x :: xs) δ = (lcTurn vs g t e x δ).bind fun p => (lcGo vs g t e src ow xs p.2).map fun q => (p.1.toList ++ q.1, q.2) := by
  rw [lcGo, if_pos h]
  unfold lcTurn
  cases g.put x δ with
  | none => rfl
  | some δ1 =>
    simp only [Option.bind_some]
    cases t δ1 with
    | none => rfl
    | some p =>
      simp only [Option.bind_some]
      by_cases hp : p.1 = true
      · simp only [hp, if_true]
        cases e p.2 with
        | none => rfl
        | some r =>
          simp only [Option.bind_some]
          cases unAll vs r.2 with
          | none => rfl
          | some δ2 =>
            simp only [Option.bind_some, Option.map_some]
            rfl
      · simp only [hp, if_false]
        cases unAll vs p.2 with
        | none => rfl
        | some δ2 =>
          simp only [Option.bind_some, Option.map_some]
          show lcGo vs g t e src ow xs δ2 = (lcGo vs g t e src ow xs δ2).map fun q => (([] : List D) ++ q.1, q.2)
          cases lcGo vs g t e src ow xs δ2 with
          | none => rfl
          | some q => rfl
/-- every turn leaves the environment as it was -/
theorem lcGo_pure {α : Type} {vs : List Nat} {g : Tg} {t : Et} {e : Ev} {src : List D} {ow : Option Nat} {δ : Env} (enc : α → D) (f : α → Option D) (hst : still δ src ow = true) :
    ∀ (xs : List α), (∀ x ∈ xs, lcTurn vs g t e (enc x) δ = some (f x, δ)) → lcGo vs g t e src ow (xs.map enc) δ = some (xs.filterMap f, δ)
  | [], _ => by simp [lcGo, hst]
  | x :: xs, h => by
    rw [List.map_cons, lcGo_cons hst, h x List.mem_cons_self]
    simp only [Option.bind_some]
    rw [lcGo_pure enc f hst xs fun y hy => h y (List.mem_cons_of_mem _ hy), List.filterMap_cons]
    cases f x <;> rfl
theorem lcGo_map {α : Type} {vs : List Nat} {g : Tg} {t : Et} {e : Ev} {src : List D} {ow : Option Nat} {δ : Env} (enc : α → D) (f : α → D) (hst : still δ src ow = true) (xs : List α) (h : ∀ x ∈ xs, lcTurn vs g t e (enc x) δ = some (some (f x), δ)) :
    lcGo vs g t e src ow (xs.map enc) δ = some (xs.map f, δ) := by
  rw [lcGo_pure enc (fun x => some (f x)) hst xs h]
  rw [show xs.filterMap (fun x => some (f x)) = xs.map f from congrFun List.filterMap_eq_map xs]
/-! ### loops -/
theorem forGo_inv {α : Type} {g : Tg} {b : Es} (enc : α → D) (P : Nat → Env → Prop) : ∀ (xs : List α) (k : Nat) (δ : Env), P k δ →
    (∀ i x δ, xs[i]? = some x → P (k + i) δ → ∃ δ1 δ2 o, g.put (enc x) δ = some δ1 ∧ b δ1 = some (o, δ2) ∧ (o = .nx ∨ o = .ct) ∧ P (k + i + 1) δ2) → ∃ δ', forGo g b (xs.map enc) δ = some (.nx, δ') ∧ P (k + xs.length) δ'
  | [], k, δ, h0, _ => ⟨δ, rfl, h0⟩
  | x :: xs, k, δ, h0, h => by
    obtain ⟨δ1, δ2, o, e1, e2, e3, e4⟩ := h 0 x δ rfl h0
    obtain ⟨δ', a1, a2⟩ := forGo_inv enc P xs (k + 1) δ2 e4 fun i y δ hy hp => by
      have := h (i + 1) y δ (by simpa using hy) (by rw [show k + (i + 1) = k + 1 + i by omega]; exact hp)
      rw [show k + (i + 1) + 1 = k + 1 + i + 1 by omega] at this
      exact this
    refine ⟨δ', ?_, by rw [List.length_cons, show k + (xs.length + 1) = k + 1 + xs.length by omega]; exact a2⟩
    rw [List.map_cons, forGo, e1]
    simp only [Option.bind_some, e2]
    rcases e3 with rfl | rfl <;> exact a1
/-- a loop that looks for the first item with c -/
theorem forGo_find {α : Type} {g : Tg} {b : Es} (enc : α → D) (P : Env → Prop) (c : α → Bool) (r : α → Res) : ∀ (xs : List α) (δ : Env), P δ →
    (∀ x δ, x ∈ xs → P δ → ∃ δ1 δ2, g.put (enc x) δ = some δ1 ∧ P δ2 ∧ b δ1 = some (if c x = true then .rt (r x) else .nx, δ2)) →
    ∃ δ', P δ' ∧ forGo g b (xs.map enc) δ = some ((match xs.find? c with | none => .nx | some x => .rt (r x)), δ')
  | [], δ, h0, _ => ⟨δ, h0, rfl⟩
  | x :: xs, δ, h0, h => by
    obtain ⟨δ1, δ2, e1, e2, e3⟩ := h x δ List.mem_cons_self h0
    rw [List.map_cons, forGo, e1]
    simp only [Option.bind_some, e3]
    by_cases hc : c x = true
    · refine ⟨δ2, e2, ?_⟩
      simp [hc]
    · obtain ⟨δ', a1, a2⟩ := forGo_find enc P c r xs δ2 e2 fun y δ hy hp => h y δ (List.mem_cons_of_mem _ hy) hp
      refine ⟨δ', a1, ?_⟩
      simp [hc, a2]
theorem whileGo_inv {t : Et} {b : Es} (P Q : Env → Prop) (μ : Env → Nat) (h : ∀ δ, P δ → (∃ δ1, t δ = some (false, δ1) ∧ Q δ1) ∨ (∃ δ1 δ2 o, t δ = some (true, δ1) ∧ b δ1 = some (o, δ2) ∧ (o = .nx ∨ o = .ct) ∧ P δ2 ∧ μ δ2 < μ δ)) :
    ∀ (n : Nat) (δ : Env), P δ → μ δ < n → ∃ δ', whileGo t b n δ = some (.nx, δ') ∧ Q δ'
  | 0, δ, _, h => by omega
  | n + 1, δ, hp, hn => by
    rw [whileGo]
    rcases h δ hp with ⟨δ1, e1, e2⟩ | ⟨δ1, δ2, o, e1, e2, e3, e4, e5⟩
    · exact ⟨δ1, by simp [e1], e2⟩
    · obtain ⟨δ', a1, a2⟩ := whileGo_inv P Q μ h n δ2 e4 (by omega)
      refine ⟨δ', ?_, a2⟩
      simp only [e1, Option.bind_some, if_true, e2]
      rcases e3 with rfl | rfl <;> exact a1
/-! ### items -/
theorem ixN_nat {n j : Nat} (h : j < n) : IP.ixN n (j : Int) = some j := by
  unfold IP.ixN
  rw [if_pos (by omega), if_pos (by omega)]
  simp
@[simp] theorem atD_ints (xs : List Int) (i : Int) : atD (xs.map .int) i = ((IP.ixN xs.length i).bind fun j => xs[j]?).map .int := by
  unfold atD
  simp only [List.length_map, List.getElem?_map]
  cases IP.ixN xs.length i <;> simp
@[simp] theorem cutD_ints (xs : List Int) (lo hi : Option Int) : cutD (xs.map .int) lo hi = ((xs.drop (clampIx xs.length 0 lo)).take (clampIx xs.length xs.length hi - clampIx xs.length 0 lo)).map .int := by
  unfold cutD
  simp
theorem rangeD_eq (lo : Int) (n : Nat) : rangeD lo n = (List.range n).map fun (k : Nat) => .int (lo + (k : Int)) := rfl
theorem downD_eq (hi : Int) (n : Nat) : downD hi n = (List.range n).map fun (k : Nat) => .int (hi - (k : Int)) := rfl
theorem enumD_eq : ∀ (k : Nat) (xs : List D), enumD k xs = (List.range xs.length).map fun (i : Nat) => .tuple [.int ((k + i : Nat) : Int), xs.getD i .none]
  | _, [] => rfl
  | k, x :: xs => by
    rw [enumD, enumD_eq (k + 1) xs, List.length_cons, List.range_succ_eq_map, List.map_cons, List.map_map]
    simp only [Nat.add_zero, List.getD_cons_zero]
    congr 1
    apply List.map_congr_left
    intro i _
    simp [Nat.add_comm, Nat.add_left_comm]
end IPL
end
section
set_option linter.all false
namespace IPL
open IP
open PySem (PyData)
def F_inverse (c : Call) : Fn := ⟨false, 2, 3, (sSeq (sSet 2 (vC (.int 1))) (sSeq (sWhile (tB (fBin bNe (oV (fBin bMod (oV (fBin bMul (oVar 1) (oVar 2))) (oVar 0))) (oV (vC (.int 1))))) (sAug 2 (fun i j => i + j) (oV (vC (.int 1))))) (sRet (vVar 2))))⟩
def F_is_between (c : Call) : Fn := ⟨false, 3, 3, (sRet (vAnd (fUn (uIs [.int]) (oVar 0)) (vAnd (vNot (fUn (uIs [.bool]) (oVar 0))) (vChain bLe bLe (oVar 1) (oVar 0) (oVar 2)))))⟩
def F_are_numbers (c : Call) : Fn := ⟨false, 3, 4, (sSeq (sIf (tOr (tNot (tV (oV (fUn (uIs [.tuple]) (oVar 1))))) (tB (fBin bGt (oV (vBi biLen (aCons (oVar 1) aNil))) (oVar 2)))) (sRet (vC (.bool false))) sPass) (sRet (vBi biAll (aCons (oV (vLc [3] (iE (oVar 1)) (.nm 3) tYes (vCall (c "is_between") (aCons (oVar 3) (aCons (oV (vC (.int 0))) (aCons (oV (fBin bSub (oVar 0) (oV (vC (.int 1))))) aNil)))))) aNil))))⟩
def F_check_prime (c : Call) : Fn := ⟨false, 1, 1, (sIf (tOr (tNot (tV (oV (vCall (c "is_between") (aCons (oVar 0) (aCons (oV (vC (.int 2))) (aCons (oV (vC (.int 7))) aNil))))))) (tB (fBin bNotIn (oVar 0) (oV (vC (.tuple ([2, 3, 5, 7].map .int))))))) sNever sPass)⟩
def F_check_number (c : Call) : Fn := ⟨false, 3, 3, (sIf (tNot (tV (oV (vCall (c "is_between") (aCons (oVar 0) (aCons (oVar 1) (aCons (oVar 2) aNil))))))) sNever sPass)⟩
def F_check_polynomial (c : Call) : Fn := ⟨false, 2, 2, (sIf (tOr (tNot (tV (oV (vCall (c "are_numbers") (aCons (oVar 0) (aCons (oVar 1) (aCons (oV (vC (.int 201))) aNil))))))) (tB (fBin bEq (oV (fSl (oVar 1) (pSo (oV (fUn uNeg (oV (vC (.int 1)))))) pNo)) (oV (vTup (aCons (oV (vC (.int 0))) aNil)))))) sNever sPass)⟩
def F_check_taps (c : Call) : Fn := ⟨false, 2, 2, (sIf (tNot (tV (oV (vCall (c "are_numbers") (aCons (oVar 0) (aCons (oVar 1) (aCons (oV (vC (.int 60))) aNil))))))) sNever sPass)⟩
def F_are_so_many (c : Call) : Fn := ⟨false, 3, 3, (sRet (vAnd (vCall (c "are_numbers") (aCons (oVar 0) (aCons (oVar 1) (aCons (oVar 2) aNil)))) (fBin bEq (oV (vBi biLen (aCons (oVar 1) aNil))) (oVar 2))))⟩
def F_check_start (c : Call) : Fn := ⟨false, 3, 3, (sIf (tNot (tV (oV (vCall (c "are_so_many") (aCons (oVar 0) (aCons (oVar 2) (aCons (oV (vBi biLen (aCons (oVar 1) aNil))) aNil))))))) sNever sPass)⟩
def F_check_wired (c : Call) : Fn := ⟨false, 3, 3, (sSeq (sEx (vCall (c "check_prime") (aCons (oVar 0) aNil))) (sSeq (sEx (vCall (c "check_taps") (aCons (oVar 0) (aCons (oVar 1) aNil)))) (sEx (vCall (c "check_start") (aCons (oVar 0) (aCons (oVar 1) (aCons (oVar 2) aNil)))))))⟩
def F_trimmed (c : Call) : Fn := ⟨false, 1, 2, (sSeq (sSet 1 (vBi biLen (aCons (oVar 0) aNil))) (sSeq (sWhile (tAnd (tB (fBin bGt (oVar 1) (oV (vC (.int 0))))) (tB (fBin bEq (oV (fBin bIx (oVar 0) (oV (fBin bSub (oVar 1) (oV (vC (.int 1))))))) (oV (vC (.int 0)))))) (sAug 1 (fun i j => i - j) (oV (vC (.int 1))))) (sRet (vBi biTuple (aCons (oV (fSl (oVar 0) pNo (pSo (oVar 1)))) aNil)))))⟩
def F_product_of (c : Call) : Fn := ⟨false, 3, 9, (sSeq (sIf (tOr (tNot (tV (oVar 1))) (tNot (tV (oVar 2)))) (sRet (vTup aNil)) sPass) (sSeq (sSet 3 (fBin bMul (oV (vLst (aCons (oV (vC (.int 0))) aNil))) (oV (fBin bSub (oV (fBin bAdd (oV (vBi biLen (aCons (oVar 1) aNil))) (oV (vBi biLen (aCons (oVar 2) aNil))))) (oV (vC (.int 1))))))) (sSeq (sFor (iEnum (oV (vVar 1))) (.tup [4, 5]) (sSeq (sIf (tB (fBin bEq (oVar 5) (oV (vC (.int 0))))) sCont sPass) (sFor (iEnum (oV (vVar 2))) (.tup [6, 7]) (sAugIx 3 (oV (fBin bAdd (oVar 4) (oVar 6))) (fun i j => i + j) (oV (fBin bMul (oVar 5) (oVar 7))))))) (sRet (vCall (c "trimmed") (aCons (oV (vLc [8] (iE (oVar 3)) (.nm 8) tYes (fBin bMod (oVar 8) (oVar 0)))) aNil))))))⟩
def F_low_of (c : Call) : Fn := ⟨false, 2, 3, (sRet (vCall (c "trimmed") (aCons (oV (fBin bAdd (oV (vLst (aCons (oV (vC (.int 1))) aNil))) (oV (vLc [2] (iE (oVar 1)) (.nm 2) tYes (fBin bMod (oV (fUn uNeg (oVar 2))) (oVar 0)))))) aNil)))⟩
def F_fraction (c : Call) : Fn := ⟨false, 3, 5, (sSeq (sEx (vCall (c "check_wired") (aCons (oVar 0) (aCons (oVar 1) (aCons (oVar 2) aNil))))) (sSeq (sSet 3 (vCall (c "low_of") (aCons (oVar 0) (aCons (oVar 1) aNil)))) (sSeq (sSet 4 (fSl (oV (vCall (c "product_of") (aCons (oVar 0) (aCons (oVar 2) (aCons (oVar 3) aNil))))) pNo (pSo (oV (vBi biLen (aCons (oVar 1) aNil)))))) (sRet (vTup (aCons (oV (vCall (c "trimmed") (aCons (oVar 4) aNil))) (aCons (oVar 3) aNil)))))))⟩
def F_expansion (c : Call) : Fn := ⟨false, 4, 10, (sSeq (sEx (vCall (c "check_prime") (aCons (oVar 0) aNil))) (sSeq (sEx (vCall (c "check_polynomial") (aCons (oVar 0) (aCons (oVar 1) aNil)))) (sSeq (sEx (vCall (c "check_polynomial") (aCons (oVar 0) (aCons (oVar 2) aNil)))) (sSeq (sEx (vCall (c "check_number") (aCons (oVar 3) (aCons (oV (vC (.int 0))) (aCons (oV (vC (.int 400))) aNil))))) (sSeq (sIf (tOr (tNot (tV (oVar 2))) (tB (fBin bEq (oV (fBin bIx (oVar 2) (oV (vC (.int 0))))) (oV (vC (.int 0)))))) sNever sPass) (sSeq (sSet 4 (vCall (c "inverse") (aCons (oVar 0) (aCons (oV (fBin bIx (oVar 2) (oV (vC (.int 0))))) aNil)))) (sSeq (sSet 5 (vLst aNil)) (sSeq (sFor (iRange1 (oVar 3)) (.nm 6) (sSeq (sSet 7 (vIte (tB (fBin bLt (oVar 6) (oV (vBi biLen (aCons (oVar 1) aNil))))) (fBin bIx (oVar 1) (oVar 6)) (vC (.int 0)))) (sSeq (sSet 8 (vBi biSum (aCons (oV (vLc [9] (iRange2 (oV (vC (.int 1))) (oV (vBi biMin (aCons (oV (fBin bAdd (oVar 6) (oV (vC (.int 1))))) (aCons (oV (vBi biLen (aCons (oVar 2) aNil))) aNil))))) (.nm 9) tYes (fBin bMul (oV (fBin bIx (oVar 2) (oVar 9))) (oV (fBin bIx (oVar 5) (oV (fBin bSub (oVar 6) (oVar 9)))))))) aNil))) (sApp 5 (fBin bMod (oV (fBin bMul (oV (fBin bSub (oVar 7) (oVar 8))) (oVar 4))) (oVar 0)))))) (sRet (vBi biTuple (aCons (oVar 5) aNil)))))))))))⟩
def F__law_taken (c : Call) : Fn := ⟨true, 2, 4, (sSeq (sIf (tB (fBin bGt (oV (fBin bIx (oVar 0) (oV (vC (.int 3))))) (oV (vC (.int 0))))) (sSeq (sSet 2 (fBin bMod (oV (vBi biInt (aCons (oV (fBin bIx (oVar 0) (oV (vC (.int 3))))) aNil))) (oVar 1))) (sSeq (sSetIx 0 (oV (vC (.int 3))) (oV (fBin bFdiv (oV (fBin bIx (oVar 0) (oV (vC (.int 3))))) (oVar 1)))) (sRet (vVar 2)))) sPass) (sSeq (sSetIx 0 (oV (vC (.int 1))) (oV (fBin bAdd (oV (fBin bIx (oVar 0) (oV (vC (.int 1))))) (oV (vC (.int 1)))))) (sSeq (sIf (tB (fBin bGt (oV (fBin bIx (oVar 0) (oV (vC (.int 1))))) (oV (vBi biLen (aCons (oV (fBin bIx (oVar 0) (oV (vC (.int 0))))) aNil))))) (sSeq (sSetIx 0 (oV (vC (.int 2))) (oV (fBin bMod (oV (vBi biInt (aCons (oV (fBin bAdd (oV (fBin bMul (oV (fBin bIx (oVar 0) (oV (vC (.int 2))))) (oV (vC (.int 48271))))) (oV (vC (.int 11))))) aNil))) (oV (vC (.int 2147483647)))))) (sRet (fBin bMod (oV (vBi biInt (aCons (oV (fBin bFdiv (oV (fBin bIx (oVar 0) (oV (vC (.int 2))))) (oV (vC (.int 7))))) aNil))) (oVar 1)))) sPass) (sSeq (sSet 3 (fBin bIx (oV (fBin bIx (oVar 0) (oV (vC (.int 0))))) (oV (fBin bSub (oV (fBin bIx (oVar 0) (oV (vC (.int 1))))) (oV (vC (.int 1))))))) (sSeq (sSetIx 0 (oV (vC (.int 2))) (oV (fBin bMod (oV (vBi biInt (aCons (oV (fBin bAdd (oV (fBin bAdd (oV (fBin bMul (oV (fBin bIx (oVar 0) (oV (vC (.int 2))))) (oV (vC (.int 48271))))) (oVar 3))) (oV (vC (.int 11))))) aNil))) (oV (vC (.int 2147483647)))))) (sSeq (sIf (tB (fBin bGe (oVar 3) (oV (fBin bPow (oV (vC (.int 10))) (oV (vC (.int 18))))))) (sSetIx 0 (oV (vC (.int 3))) (oV (fBin bFdiv (oVar 3) (oVar 1)))) sPass) (sRet (fBin bMod (oV (vBi biInt (aCons (oVar 3) aNil))) (oVar 1)))))))))⟩
def F__law_pick (c : Call) : Fn := ⟨true, 2, 2, (sRet (fBin bIx (oVar 1) (oV (vCallR (c "_law_taken") 0 (aCons (oV (vBi biLen (aCons (oVar 1) aNil))) aNil)))))⟩
def F__law_prime (c : Call) : Fn := ⟨true, 1, 1, (sRet (vCallR (c "_law_pick") 0 (aCons (oV (vLst (aCons (oV (vC (.int 2))) (aCons (oV (vC (.int 2))) (aCons (oV (vC (.int 3))) (aCons (oV (vC (.int 5))) (aCons (oV (vC (.int 7))) aNil))))))) aNil)))⟩
def F__law_taps (c : Call) : Fn := ⟨true, 3, 6, (sSeq (sSet 3 (vCallR (c "_law_taken") 0 (aCons (oV (fBin bAdd (oVar 2) (oV (vC (.int 1))))) aNil))) (sSeq (sSet 4 (vBi biTuple (aCons (oV (vLc [5] (iRange1 (oVar 3)) (.nm 5) tYes (vCallR (c "_law_taken") 0 (aCons (oVar 1) aNil)))) aNil))) (sRet (vTup (aCons (oVar 4) (aCons (oV (vBi biTuple (aCons (oV (vLc [5] (iRange1 (oVar 3)) (.nm 5) tYes (vCallR (c "_law_taken") 0 (aCons (oVar 1) aNil)))) aNil))) aNil))))))⟩
def F__law_trim (c : Call) : Fn := ⟨false, 1, 3, (sSeq (sSet 1 (vBi biList (aCons (oVar 0) aNil))) (sSeq (sFor (iRange1 (oV (vBi biLen (aCons (oVar 1) aNil)))) (.nm 2) (sIf (tB (fBin bEq (oV (fSl (oVar 1) (pSo (oV (fUn uNeg (oV (vC (.int 1)))))) pNo)) (oV (vLst (aCons (oV (vC (.int 0))) aNil))))) (sPop 1) sPass)) (sRet (vBi biTuple (aCons (oVar 1) aNil)))))⟩
def F__law_times (c : Call) : Fn := ⟨false, 3, 6, (sSeq (sSet 3 (fBin bMul (oV (vLst (aCons (oV (vC (.int 0))) aNil))) (oV (fBin bAdd (oV (vBi biLen (aCons (oVar 1) aNil))) (oV (vBi biLen (aCons (oVar 2) aNil))))))) (sSeq (sFor (iRange1 (oV (vBi biLen (aCons (oVar 1) aNil)))) (.nm 4) (sFor (iRange1 (oV (vBi biLen (aCons (oVar 2) aNil)))) (.nm 5) (sSetIx 3 (oV (fBin bAdd (oVar 4) (oVar 5))) (oV (fBin bMod (oV (vBi biInt (aCons (oV (fBin bAdd (oV (fBin bIx (oVar 3) (oV (fBin bAdd (oVar 4) (oVar 5))))) (oV (fBin bMul (oV (fBin bIx (oVar 1) (oVar 4))) (oV (fBin bIx (oVar 2) (oVar 5))))))) aNil))) (oVar 0)))))) (sRet (vCall (c "_law_trim") (aCons (oVar 3) aNil)))))⟩
def F__law_alike (c : Call) : Fn := ⟨false, 2, 3, (sSeq (sIf (tV (oV (fUn (uIs [.tuple, .list]) (oVar 1)))) (sSeq (sIf (tOr (tNot (tV (oV (fUn (uIs [.tuple, .list]) (oVar 0))))) (tB (fBin bNe (oV (fUn (uIs [.list]) (oVar 0))) (oV (fUn (uIs [.list]) (oVar 1)))))) (sRet (vC (.bool false))) sPass) (sSeq (sIf (tB (fBin bNe (oV (vBi biLen (aCons (oVar 0) aNil))) (oV (vBi biLen (aCons (oVar 1) aNil))))) (sRet (vC (.bool false))) sPass) (sRet (fBin bEq (oV (vLc [2] (iRange1 (oV (vBi biLen (aCons (oVar 1) aNil)))) (.nm 2) (tNot (tV (oV (vCall (c "_law_alike") (aCons (oV (fBin bIx (oVar 0) (oVar 2))) (aCons (oV (fBin bIx (oVar 1) (oVar 2))) aNil)))))) (vVar 2))) (oV (vLst aNil)))))) sPass) (sSeq (sIf (tOr (tB (fUn uIsN (oVar 1))) (tV (oV (fUn (uIs [.str]) (oVar 1))))) (sRet (vAnd (fBin bEq (oVar 0) (oVar 1)) (fBin bEq (oV (fUn (uIs [.str]) (oVar 0))) (oV (fUn (uIs [.str]) (oVar 1)))))) sPass) (sRet (vAnd (fUn (uIs [.int]) (oVar 0)) (vAnd (fBin bEq (oV (fUn (uIs [.bool]) (oVar 0))) (oV (fUn (uIs [.bool]) (oVar 1)))) (fBin bEq (oVar 0) (oVar 1)))))))⟩
def F__law_run (c : Call) : Fn := ⟨false, 4, 7, (sSeq (sSet 4 (vBi biList (aCons (oVar 2) aNil))) (sSeq (sFor (iRange2 (oV (vBi biLen (aCons (oVar 1) aNil))) (oVar 3)) (.nm 5) (sApp 4 (fBin bMod (oV (vBi biInt (aCons (oV (vBi biSum (aCons (oV (vLc [6] (iRange1 (oV (vBi biLen (aCons (oVar 1) aNil)))) (.nm 6) tYes (fBin bMul (oV (fBin bIx (oVar 1) (oVar 6))) (oV (fBin bIx (oVar 4) (oV (fBin bSub (oV (fBin bSub (oVar 5) (oV (vC (.int 1))))) (oVar 6)))))))) aNil))) aNil))) (oVar 0)))) (sRet (vBi biTuple (aCons (oV (fSl (oVar 4) pNo (pSo (oVar 3)))) aNil)))))⟩
def F__law_row (c : Call) : Fn := ⟨true, 3, 4, (sRet (vBi biTuple (aCons (oV (vLc [3] (iRange1 (oV (vCallR (c "_law_taken") 0 (aCons (oV (fBin bAdd (oVar 2) (oV (vC (.int 1))))) aNil)))) (.nm 3) tYes (vCallR (c "_law_taken") 0 (aCons (oVar 1) aNil)))) aNil)))⟩
def F__law_poly (c : Call) : Fn := ⟨true, 3, 3, (sRet (vCall (c "_law_trim") (aCons (oV (vCallR (c "_law_row") 0 (aCons (oVar 1) (aCons (oV (fBin bAdd (oVar 2) (oV (vC (.int 1))))) aNil)))) aNil)))⟩
def F__law_is_poly (c : Call) : Fn := ⟨false, 2, 4, (sSeq (sIf (tOr (tNot (tV (oV (fUn (uIs [.tuple]) (oVar 1))))) (tB (fBin bEq (oV (fSl (oVar 1) (pSo (oV (fUn uNeg (oV (vC (.int 1)))))) pNo)) (oV (vTup (aCons (oV (vC (.int 0))) aNil)))))) (sRet (vC (.bool false))) sPass) (sSeq (sSet 2 (vLc [3] (iE (oVar 1)) (.nm 3) (tOr (tNot (tV (oV (fUn (uIs [.int]) (oVar 3))))) (tV (oV (fUn (uIs [.bool]) (oVar 3))))) (vVar 3))) (sRet (vAnd (fBin bEq (oVar 2) (oV (vLst aNil))) (fBin bEq (oV (vLc [3] (iE (oVar 1)) (.nm 3) (tNot (tB (vChain bLe bLt (oV (vC (.int 0))) (oVar 3) (oVar 0)))) (vVar 3))) (oV (vLst aNil)))))))⟩
def F_law (c : Call) : Fn := ⟨false, 1, 11, (sSeq (sSet 1 (vLst (aCons (oVar 0) (aCons (oV (vC (.int 0))) (aCons (oV (vC (.int 5005))) (aCons (oV (vC (.int 0))) aNil)))))) (sSeq (sSet 2 (vCallR (c "_law_prime") 1 aNil)) (sSeq (sUnp [3, 4] (vCallR (c "_law_taps") 1 (aCons (oVar 2) (aCons (oV (fBin bIx (oV (vLst (aCons (oV (vC (.int 3))) (aCons (oV (vC (.int 8))) (aCons (oV (vC (.int 30))) aNil))))) (oV (vCallR (c "_law_taken") 1 (aCons (oV (vC (.int 3))) aNil))))) aNil)))) (sSeq (sSet 5 (vCall (c "_law_trim") (aCons (oV (fBin bAdd (oV (vLst (aCons (oV (vC (.int 1))) aNil))) (oV (vLc [10] (iE (oVar 3)) (.nm 10) tYes (fBin bMod (oV (vBi biInt (aCons (oV (fBin bSub (oV (vC (.int 0))) (oVar 10))) aNil))) (oVar 2)))))) aNil))) (sSeq (sSet 6 (vCall (c "_law_trim") (aCons (oV (fSl (oV (vCall (c "_law_times") (aCons (oVar 2) (aCons (oVar 5) (aCons (oV (vCall (c "_law_trim") (aCons (oVar 4) aNil))) aNil))))) pNo (pSo (oV (vBi biLen (aCons (oVar 3) aNil)))))) aNil))) (sSeq (sIf (tNot (tV (oV (vCall (c "_law_alike") (aCons (oV (vCall (c "fraction") (aCons (oVar 2) (aCons (oVar 3) (aCons (oVar 4) aNil))))) (aCons (oV (vTup (aCons (oVar 6) (aCons (oVar 5) aNil)))) aNil)))))) (sRet (vC (.bool false))) sPass) (sSeq (sSet 7 (vCallR (c "_law_taken") 1 (aCons (oV (vC (.int 80))) aNil))) (sSeq (sIf (tNot (tV (oV (vCall (c "_law_alike") (aCons (oV (vCall (c "expansion") (aCons (oVar 2) (aCons (oVar 6) (aCons (oVar 5) (aCons (oVar 7) aNil)))))) (aCons (oV (vCall (c "_law_run") (aCons (oVar 2) (aCons (oVar 3) (aCons (oVar 4) (aCons (oVar 7) aNil)))))) aNil)))))) (sRet (vC (.bool false))) sPass) (sSeq (sPar [6, 5] [(vCallR (c "_law_poly") 1 (aCons (oVar 2) (aCons (oV (vC (.int 12))) aNil))), (fBin bAdd (oV (vTup (aCons (oV (fBin bAdd (oV (vC (.int 1))) (oV (vCallR (c "_law_taken") 1 (aCons (oV (fBin bSub (oVar 2) (oV (vC (.int 1))))) aNil))))) aNil))) (oV (vCallR (c "_law_row") 1 (aCons (oVar 2) (aCons (oV (vC (.int 10))) aNil)))))]) (sSeq (sSet 5 (vCall (c "_law_trim") (aCons (oVar 5) aNil))) (sSeq (sSet 8 (vCall (c "expansion") (aCons (oVar 2) (aCons (oVar 6) (aCons (oVar 5) (aCons (oVar 7) aNil)))))) (sSeq (sIf (tOr (tB (fBin bNe (oV (vBi biLen (aCons (oVar 8) aNil))) (oVar 7))) (tNot (tV (oV (vCall (c "_law_is_poly") (aCons (oVar 2) (aCons (oV (vCall (c "_law_trim") (aCons (oVar 8) aNil))) aNil))))))) (sRet (vC (.bool false))) sPass) (sSeq (sSet 9 (vCall (c "_law_times") (aCons (oVar 2) (aCons (oV (vCall (c "_law_trim") (aCons (oVar 8) aNil))) (aCons (oVar 5) aNil))))) (sRet (fBin bEq (oV (vCall (c "_law_trim") (aCons (oV (fSl (oVar 9) pNo (pSo (oVar 7)))) aNil))) (oV (vCall (c "_law_trim") (aCons (oV (fSl (oVar 6) pNo (pSo (oVar 7)))) aNil))))))))))))))))))⟩
def tbl (c : Call) (f : String) : Option Fn :=
  if f = "inverse" then some (F_inverse c)
  else if f = "is_between" then some (F_is_between c)
  else if f = "are_numbers" then some (F_are_numbers c)
  else if f = "check_prime" then some (F_check_prime c)
  else if f = "check_number" then some (F_check_number c)
  else if f = "check_polynomial" then some (F_check_polynomial c)
  else if f = "check_taps" then some (F_check_taps c)
  else if f = "are_so_many" then some (F_are_so_many c)
  else if f = "check_start" then some (F_check_start c)
  else if f = "check_wired" then some (F_check_wired c)
  else if f = "trimmed" then some (F_trimmed c)
  else if f = "product_of" then some (F_product_of c)
  else if f = "low_of" then some (F_low_of c)
  else if f = "fraction" then some (F_fraction c)
  else if f = "expansion" then some (F_expansion c)
  else if f = "_law_taken" then some (F__law_taken c)
  else if f = "_law_pick" then some (F__law_pick c)
  else if f = "_law_prime" then some (F__law_prime c)
  else if f = "_law_taps" then some (F__law_taps c)
  else if f = "_law_trim" then some (F__law_trim c)
  else if f = "_law_times" then some (F__law_times c)
  else if f = "_law_alike" then some (F__law_alike c)
  else if f = "_law_run" then some (F__law_run c)
  else if f = "_law_row" then some (F__law_row c)
  else if f = "_law_poly" then some (F__law_poly c)
  else if f = "_law_is_poly" then some (F__law_is_poly c)
  else if f = "law" then some (F_law c)
  else none
def run : Nat → Call
  | 0 => fun _ _ _ => none
  | n + 1 => fun f r ds => match tbl (run n) f with
    | some F => F.run r ds
    | none => none
theorem run_inverse (n : Nat) : run (n + 1) "inverse" = (F_inverse (run n)).run := by
  funext r ds
  simp [run, tbl]
theorem run_is_between (n : Nat) : run (n + 1) "is_between" = (F_is_between (run n)).run := by
  funext r ds
  simp [run, tbl]
theorem run_are_numbers (n : Nat) : run (n + 1) "are_numbers" = (F_are_numbers (run n)).run := by
  funext r ds
  simp [run, tbl]
theorem run_check_prime (n : Nat) : run (n + 1) "check_prime" = (F_check_prime (run n)).run := by
  funext r ds
  simp [run, tbl]
theorem run_check_number (n : Nat) : run (n + 1) "check_number" = (F_check_number (run n)).run := by
  funext r ds
  simp [run, tbl]
theorem run_check_polynomial (n : Nat) : run (n + 1) "check_polynomial" = (F_check_polynomial (run n)).run := by
  funext r ds
  simp [run, tbl]
theorem run_check_taps (n : Nat) : run (n + 1) "check_taps" = (F_check_taps (run n)).run := by
  funext r ds
  simp [run, tbl]
theorem run_are_so_many (n : Nat) : run (n + 1) "are_so_many" = (F_are_so_many (run n)).run := by
  funext r ds
  simp [run, tbl]
theorem run_check_start (n : Nat) : run (n + 1) "check_start" = (F_check_start (run n)).run := by
  funext r ds
  simp [run, tbl]
theorem run_check_wired (n : Nat) : run (n + 1) "check_wired" = (F_check_wired (run n)).run := by
  funext r ds
  simp [run, tbl]
theorem run_trimmed (n : Nat) : run (n + 1) "trimmed" = (F_trimmed (run n)).run := by
  funext r ds
  simp [run, tbl]
theorem run_product_of (n : Nat) : run (n + 1) "product_of" = (F_product_of (run n)).run := by
  funext r ds
  simp [run, tbl]
theorem run_low_of (n : Nat) : run (n + 1) "low_of" = (F_low_of (run n)).run := by
  funext r ds
  simp [run, tbl]
theorem run_fraction (n : Nat) : run (n + 1) "fraction" = (F_fraction (run n)).run := by
  funext r ds
  simp [run, tbl]
theorem run_expansion (n : Nat) : run (n + 1) "expansion" = (F_expansion (run n)).run := by
  funext r ds
  simp [run, tbl]
theorem run__law_taken (n : Nat) : run (n + 1) "_law_taken" = (F__law_taken (run n)).run := by
  funext r ds
  simp [run, tbl]
theorem run__law_pick (n : Nat) : run (n + 1) "_law_pick" = (F__law_pick (run n)).run := by
  funext r ds
  simp [run, tbl]
theorem run__law_prime (n : Nat) : run (n + 1) "_law_prime" = (F__law_prime (run n)).run := by
  funext r ds
  simp [run, tbl]
theorem run__law_taps (n : Nat) : run (n + 1) "_law_taps" = (F__law_taps (run n)).run := by
  funext r ds
  simp [run, tbl]
theorem run__law_trim (n : Nat) : run (n + 1) "_law_trim" = (F__law_trim (run n)).run := by
  funext r ds
  simp [run, tbl]
theorem run__law_times (n : Nat) : run (n + 1) "_law_times" = (F__law_times (run n)).run := by
  funext r ds
  simp [run, tbl]
theorem run__law_alike (n : Nat) : run (n + 1) "_law_alike" = (F__law_alike (run n)).run := by
  funext r ds
  simp [run, tbl]
theorem run__law_run (n : Nat) : run (n + 1) "_law_run" = (F__law_run (run n)).run := by
  funext r ds
  simp [run, tbl]
theorem run__law_row (n : Nat) : run (n + 1) "_law_row" = (F__law_row (run n)).run := by
  funext r ds
  simp [run, tbl]
theorem run__law_poly (n : Nat) : run (n + 1) "_law_poly" = (F__law_poly (run n)).run := by
  funext r ds
  simp [run, tbl]
theorem run__law_is_poly (n : Nat) : run (n + 1) "_law_is_poly" = (F__law_is_poly (run n)).run := by
  funext r ds
  simp [run, tbl]
theorem run_law (n : Nat) : run (n + 1) "law" = (F_law (run n)).run := by
  funext r ds
  simp [run, tbl]
end IPL
end
section
set_option linter.all false
set_option maxRecDepth 20000
namespace IPL
open IP
open PySem (PyData)
theorem I_is_between (n : Nat) (v a b : Int) : run (n + 1) "is_between" none [.int v, .int a, .int b] = some (.dat (.bool (decide (a ≤ v ∧ v ≤ b))), none) := by
  rw [run_is_between]
  simp [F_is_between]
  split <;> simp_all <;> omega
def numsB (p : Int) (most : Int) (xs : List Int) : Bool := if most < (xs.length : Int) then false else xs.all fun x => decide (0 ≤ x ∧ x ≤ p - 1)
theorem I_are_numbers (n : Nat) (p most : Int) (xs : List Int) (hl : xs.length ≤ 1000) : run (n + 2) "are_numbers" none [.int p, iT xs, .int most] = some (.dat (.bool (numsB p most xs)), none) := by
  rw [run_are_numbers]
  simp [F_are_numbers, numsB]
  by_cases h : most < (xs.length : Int)
  · simp [h]
  · have hs : xs.length ≤ 16000000 := by omega
    simp [h, hs]
    rw [lcGo_map .int (fun x => .bool (decide (0 ≤ x ∧ x ≤ p - 1))) rfl xs (fun x _ => by simp [I_is_between])]
    simp
def isPrime (p : Int) : Prop := p = 2 ∨ p = 3 ∨ p = 5 ∨ p = 7
def nums (p : Int) (xs : List Int) : Prop := ∀ x ∈ xs, 0 ≤ x ∧ x < p
theorem numsB_of {p most : Int} {xs : List Int} (h : nums p xs) (hl : (xs.length : Int) ≤ most) : numsB p most xs = true := by
  unfold numsB
  rw [if_neg (by omega), List.all_eq_true]
  intro x hx
  have := h x hx
  exact decide_eq_true (by omega)
theorem I_check_prime (n : Nat) {p : Int} (h : isPrime p) : run (n + 2) "check_prime" none [.int p] = some (.dat .none, none) := by
  rw [run_check_prime]
  rcases h with rfl | rfl | rfl | rfl <;> simp [F_check_prime, I_is_between, intsOf]
theorem I_check_number (n : Nat) {v a b : Int} (h1 : a ≤ v) (h2 : v ≤ b) : run (n + 2) "check_number" none [.int v, .int a, .int b] = some (.dat .none, none) := by
  rw [run_check_number]
  simp [F_check_number, I_is_between, h1, h2]
theorem I_check_taps (n : Nat) {p : Int} {xs : List Int} (h : nums p xs) (hl : xs.length ≤ 60) : run (n + 3) "check_taps" none [.int p, iT xs] = some (.dat .none, none) := by
  rw [run_check_taps]
  have h1 := I_are_numbers n p 60 xs (by omega)
  rw [numsB_of h (by omega)] at h1
  simp [F_check_taps, h1]
theorem I_check_start (n : Nat) (hn : 0 < n) {p : Int} {ts xs : List Int} (h : nums p xs) (hl : xs.length = ts.length) (hl2 : ts.length ≤ 60) : run (n + 3) "check_start" none [.int p, iT ts, iT xs] = some (.dat .none, none) := by
  obtain ⟨n, rfl⟩ : ∃ m, n = m + 1 := ⟨n - 1, by omega⟩
  rw [run_check_start]
  have h1 := I_are_numbers n p ts.length xs (by omega)
  rw [numsB_of h (by omega)] at h1
  have h2 : run (n + 3) "are_so_many" none [.int p, iT xs, .int ts.length] = some (.dat (.bool true), none) := by
    rw [run_are_so_many]
    have hs : PySem.SeqAt.shaped (.int (ts.length : Int)) = true := by simp [PySem.SeqAt.shaped, PySem.PyData.canLay0, PySem.PyData.depth]
    have he : PyData.eqv (.int (ts.length : Int)) (.int (ts.length : Int)) = true := by rw [PyData.eqv]; simp
    simp [F_are_so_many, h1, hl, hs, he]
  simp [F_check_start, h2]
theorem I_check_wired (n : Nat) (hn : 0 < n) {p : Int} {ts xs : List Int} (hp : isPrime p) (ht : nums p ts) (h : nums p xs) (hl : xs.length = ts.length) (hl2 : ts.length ≤ 60) : run (n + 4) "check_wired" none [.int p, iT ts, iT xs] = some (.dat .none, none) := by
  rw [run_check_wired]
  have h1 := I_check_prime (n + 1) hp
  have h2 := I_check_taps n ht hl2
  have h3 := I_check_start n hn h hl hl2
  simp [F_check_wired, h1, h2, h3]
theorem prime_pos {p : Int} (h : isPrime p) : 2 ≤ p ∧ p ≤ 7 := by
  rcases h with rfl | rfl | rfl | rfl <;> decide
def nextN (p : Int) (ts row : List Int) : Int := ((List.range ts.length).map fun k => ts.getD k 0 * row.getD (row.length - 1 - k) 0).sum % p
def grow (p : Int) (ts : List Int) : Nat → List Int → List Int
  | 0, row => row
  | k + 1, row => grow p ts k (row ++ [nextN p ts row])
theorem grow_length (p : Int) (ts : List Int) : ∀ (k : Nat) (row : List Int), (grow p ts k row).length = row.length + k
  | 0, row => rfl
  | k + 1, row => by
    rw [grow, grow_length p ts k]
    simp
    omega
theorem nextN_num {p : Int} (hp : isPrime p) (ts row : List Int) : 0 ≤ nextN p ts row ∧ nextN p ts row < p := by
  have := prime_pos hp
  exact ⟨Int.emod_nonneg _ (by omega), Int.emod_lt_of_pos _ (by omega)⟩
theorem grow_nums {p : Int} (hp : isPrime p) (ts : List Int) : ∀ (k : Nat) (row : List Int), nums p row → nums p (grow p ts k row)
  | 0, row, h => h
  | k + 1, row, h => grow_nums hp ts k _ fun x hx => by
    rcases List.mem_append.mp hx with h' | h'
    · exact h x h'
    · rw [List.mem_singleton.mp h']
      exact nextN_num hp ts row
def firstN (p : Int) (ts start : List Int) (c : Nat) : List Int := grow p ts (c - ts.length) (start.take c)
theorem firstN_length (p : Int) {ts st : List Int} (hl : st.length = ts.length) (c : Nat) : (firstN p ts st c).length = c := by
  unfold firstN
  rw [grow_length, List.length_take]
  omega
theorem firstN_nums {p : Int} (hp : isPrime p) (ts : List Int) {st : List Int} (h : nums p st) (c : Nat) : nums p (firstN p ts st c) :=
  grow_nums hp ts _ _ fun x hx => h x (List.mem_of_mem_take hx)
def optN : Option Nat → D
  | none => .none
  | some k => .int k
@[simp] theorem shaped_int (v : Int) : PySem.SeqAt.shaped (.int v) = true := by
  simp [PySem.SeqAt.shaped, PySem.PyData.canLay0, PySem.PyData.depth]
@[simp] theorem shaped_none : PySem.SeqAt.shaped .none = true := by
  simp [PySem.SeqAt.shaped, PySem.PyData.canLay0, PySem.PyData.depth]
@[simp] theorem shaped_bool (v : Bool) : PySem.SeqAt.shaped (.bool v) = true := by
  simp [PySem.SeqAt.shaped, PySem.PyData.canLay0, PySem.PyData.depth]
@[simp] theorem shaped_nil : PySem.SeqAt.shaped (.list []) = true := by decide
@[simp] theorem eqv_int (a b : Int) : PyData.eqv (.int a) (.int b) = (a == b) := by rw [PyData.eqv]
@[simp] theorem eqv_none : PyData.eqv .none .none = true := by rw [PyData.eqv]
@[simp] theorem eqv_bool (a b : Bool) : PyData.eqv (.bool a) (.bool b) = (a == b) := by rw [PyData.eqv]
@[simp] theorem eqv_int_none (a : Int) : PyData.eqv (.int a) .none = false := by rw [PyData.eqv] <;> simp
@[simp] theorem eqv_nil : PyData.eqv (.list []) (.list []) = true := by rw [PyData.eqv, PyData.eqvAll]
theorem sFor_at {it : Ei} {g : Tg} {b : Es} {δ δ1 : Env} {xs : List D} {r : Out × Env} (h : it δ = some ((xs, none), δ1)) (h2 : forGo g b xs δ1 = some r) : sFor it g b δ = some r := by
  simp only [sFor, h, Option.bind_some, if_true]
  exact h2
theorem sSeq_nx {f g : Es} {δ δ1 : Env} (h : f δ = some (.nx, δ1)) : sSeq f g δ = g δ1 := by
  simp only [sSeq, h, Option.bind_some]
theorem sSeq_rt {f g : Es} {δ δ1 : Env} {r : Res} (h : f δ = some (.rt r, δ1)) : sSeq f g δ = some (.rt r, δ1) := by
  simp only [sSeq, h, Option.bind_some]
theorem fn_val {F : Fn} {ds : List D} {r : Res} {δ : Env} (hb : F.byRef = false) (hl : ds.length = F.nps) (h : F.body (ds.map .dat ++ List.replicate (F.names - F.nps) .un) = some (.rt r, δ)) : F.run none ds = some (r, none) := by
  simp only [Fn.run, hb, hl, if_true, Option.bind_some, h]
theorem fn_ref {F : Fn} {xs ys : List D} {ds : List D} {r : Res} {δ : Env} (hb : F.byRef = true) (hl : ds.length + 1 = F.nps) (h : F.body (.prm xs :: (ds.map .dat ++ List.replicate (F.names - F.nps) .un)) = some (.rt r, δ)) (h0 : δ[0]? = some (.prm ys)) : F.run (some xs) ds = some (r, some ys) := by
  simp only [Fn.run, hb, hl, if_true, Option.bind_some, h, h0]
theorem clamp_nat {n a : Nat} (h : a ≤ n) (d : Nat) : clampIx n d (some (a : Int)) = a := by
  simp only [clampIx]
  rw [if_neg (by omega), Int.toNat_natCast]
  omega
def RowOk (ns : List Int) (xs : List D) : Prop := ∃ a b c : Int, xs = [scr ns, .int a, .int b, .int c] ∧ 0 ≤ a
theorem atD4_0 (a b c d : D) : atD [a, b, c, d] 0 = some a := rfl
theorem atD4_1 (a b c d : D) : atD [a, b, c, d] 1 = some b := rfl
theorem atD4_2 (a b c d : D) : atD [a, b, c, d] 2 = some c := rfl
theorem atD4_3 (a b c d : D) : atD [a, b, c, d] 3 = some d := rfl
theorem ixN4_1 : IP.ixN 4 1 = some 1 := rfl
theorem ixN4_2 : IP.ixN 4 2 = some 2 := rfl
theorem ixN4_3 : IP.ixN 4 3 = some 3 := rfl
theorem I_taken (n : Nat) {ns : List Int} {xs : List D} (h : RowOk ns xs) {m : Int} (h0 : 0 < m) (h1 : m < 1073741824) : ∃ k xs', run (n + 1) "_law_taken" (some xs) [.int m] = some (.dat (.int k), some xs') ∧ (0 ≤ k ∧ k < m) ∧ RowOk ns xs' := by
  obtain ⟨a, b, c, rfl, ha⟩ := h
  rw [run__law_taken]
  have hm : ∀ x : Int, 0 ≤ x % m ∧ x % m < m := fun x => ⟨Int.emod_nonneg _ (by omega), Int.emod_lt_of_pos _ h0⟩
  by_cases hc : 0 < c
  · refine ⟨c % m, [scr ns, .int a, .int b, .int (c / m)], ?_, hm c, a, b, c / m, rfl, ha⟩
    simp [F__law_taken, atD4_0, atD4_1, atD4_2, atD4_3, ixN4_1, ixN4_2, ixN4_3, hc, h0, h1]
  · by_cases hl : (ns.length : Int) < a + 1
    · refine ⟨((b * 48271 + 11) % 2147483647 / 7) % m, [scr ns, .int (a + 1), .int ((b * 48271 + 11) % 2147483647), .int c], ?_, hm _, a + 1, _, c, rfl, by omega⟩
      simp [F__law_taken, atD4_0, atD4_1, atD4_2, atD4_3, ixN4_1, ixN4_2, ixN4_3, hc, h0, h1, scr, hl]
    · obtain ⟨a', rfl⟩ : ∃ a' : Nat, (a' : Int) = a := ⟨a.toNat, by omega⟩
      have hl' : a' < ns.length := by omega
      have e1 : IP.ixN ns.length (a' : Int) = some a' := ixN_nat hl'
      obtain ⟨v, e2⟩ : ∃ v, ns[a']? = some v := ⟨ns[a'], List.getElem?_eq_getElem hl'⟩
      by_cases hv : 1000000000000000000 ≤ v
      · refine ⟨v % m, [scr ns, .int ((a' : Int) + 1), .int ((b * 48271 + v + 11) % 2147483647), .int (v / m)], ?_, hm _, _, _, _, rfl, by omega⟩
        simp [F__law_taken, atD4_0, atD4_1, atD4_2, atD4_3, ixN4_1, ixN4_2, ixN4_3, hc, h0, h1, scr, hl, e1, e2, hv]
      · refine ⟨v % m, [scr ns, .int ((a' : Int) + 1), .int ((b * 48271 + v + 11) % 2147483647), .int c], ?_, hm _, _, _, _, rfl, by omega⟩
        simp [F__law_taken, atD4_0, atD4_1, atD4_2, atD4_3, ixN4_1, ixN4_2, ixN4_3, hc, h0, h1, scr, hl, e1, e2, hv]
theorem vLc_at {vs : List Nat} {it : Ei} {g : Tg} {t : Et} {e : Ev} {δ δ1 δ2 δ3 : Env} {xs ys : List D} {ow : Option Nat} (h1 : it δ = some ((xs, ow), δ1)) (h2 : unAll vs δ1 = some δ2) (h3 : xs.length ≤ line) (h4 : lcGo vs g t e xs ow xs δ2 = some (ys, δ3)) : vLc vs it g t e δ = some (.new ys, backAll δ1 vs δ3) := by
  simp only [vLc, h1, h2, Option.bind_some]
  rw [if_pos h3, h4]
  rfl
theorem sSet_at {f : Ev} {δ δ1 δ2 : Env} {r : Res} {i : Nat} (h : f δ = some (r, δ1)) (h2 : setSlot δ1 i (slotOf r) = some δ2) : sSet i f δ = some (.nx, δ2) := by
  rw [sSet, h, Option.bind_some, h2]
  rfl
theorem sRet_at {f : Ev} {δ δ1 : Env} {r : Res} (h : f δ = some (r, δ1)) : sRet f δ = some (.rt r, δ1) := by
  rw [sRet, h]
  rfl
theorem tuple_at {f : Ev} {δ δ1 : Env} {ys : List D} (h : f δ = some (.new ys, δ1)) : vBi biTuple (aCons (oV f) aNil) δ = some (.dat (.tuple ys), δ1) := by
  simp only [vBi, aCons, aNil, oV, h, Option.bind_some, Option.map_some, rdAll, rd, Res.toD, biTuple]
theorem oV_at {f : Ev} {δ δ1 : Env} {r : Res} (h : f δ = some (r, δ1)) : oV f δ = some (.val r.toD, δ1) := by
  rw [oV, h]
  rfl
theorem vTup2_at {f g : Eo} {δ δ1 δ2 : Env} {x y : D} (h : f δ = some (.val x, δ1)) (h2 : g δ1 = some (.val y, δ2)) : vTup (aCons f (aCons g aNil)) δ = some (.dat (.tuple [x, y]), δ2) := by
  simp only [vTup, aCons, aNil, h, h2, Option.bind_some, Option.map_some, vals]
  rfl
theorem set_self {α : Type} : ∀ (l : List α) (i : Nat) (a : α), l[i]? = some a → l.set i a = l
  | [], i, a, h => by simp at h
  | x :: l, 0, a, h => by
    simp at h
    rw [h]
    rfl
  | x :: l, i + 1, a, h => by
    simp at h
    rw [List.set_cons_succ, set_self l i a h]
theorem lc_draws (n : Nat) {ns : List Int} {p : Int} (h0 : 0 < p) (h1 : p < 1073741824) (v : Nat) (rest : Env) (hv : rest[v]? = some .un) (src : List D) : ∀ (ds : List D) (xs : List D), RowOk ns xs →
    ∃ is xs', lcGo [v + 2] (.nm (v + 2)) tYes (vCallR (run (n + 1) "_law_taken") 0 (aCons (oVar 1) aNil)) src none ds (.prm xs :: .dat (.int p) :: rest) = some (is.map .int, .prm xs' :: .dat (.int p) :: rest) ∧ is.length = ds.length ∧ nums p is ∧ RowOk ns xs'
  | [], xs, hx => ⟨[], xs, by simp [lcGo], rfl, fun x h => by simp at h, hx⟩
  | d :: ds, xs, hx => by
    obtain ⟨k, xs1, e1, hk, hx1⟩ := I_taken n hx h0 h1
    obtain ⟨is, xs2, e2, hl, hn, hx2⟩ := lc_draws n h0 h1 v rest hv src ds xs1 hx1
    refine ⟨k :: is, xs2, ?_, by simp [hl], ?_, hx2⟩
    · have hv2 : v < rest.length := by
        rcases Nat.lt_or_ge v rest.length with h | h
        · exact h
        · rw [List.getElem?_eq_none h] at hv
          cases hv
      have es : (rest.set v (.dat d)).set v .un = rest := by rw [List.set_set, set_self rest v _ hv]
      have eg : (rest.set v (.dat d))[v]? = some (.dat d) := by simp [hv2]
      have et : lcTurn [v + 2] (.nm (v + 2)) tYes (vCallR (run (n + 1) "_law_taken") 0 (aCons (oVar 1) aNil)) d (.prm xs :: .dat (.int p) :: rest) = some (some (.int k), .prm xs1 :: .dat (.int p) :: rest) := by
        have ep : (Tg.nm (v + 2)).put d (.prm xs :: .dat (.int p) :: rest) = some (.prm xs :: .dat (.int p) :: rest.set v (.dat d)) := by simp [hv]
        unfold lcTurn
        rw [ep]
        generalize rest.set v (.dat d) = r1 at eg es
        simp [e1, eg, es]
      rw [lcGo_cons rfl, et]
      simp [e2]
    · intro x hx
      rcases List.mem_cons.mp hx with rfl | hx
      · exact hk
      · exact hn x hx
theorem I_pick (n : Nat) {ns : List Int} {xs : List D} (h : RowOk ns xs) {cs : List Int} (h0 : 0 < cs.length) (h1 : cs.length < 1073741824) : ∃ v xs', run (n + 2) "_law_pick" (some xs) [iL cs] = some (.dat (.int v), some xs') ∧ v ∈ cs ∧ RowOk ns xs' := by
  obtain ⟨k, xs1, e1, hk, hx1⟩ := I_taken n h (m := cs.length) (by omega) (by omega)
  obtain ⟨k', rfl⟩ : ∃ k' : Nat, (k' : Int) = k := ⟨k.toNat, by omega⟩
  have hl : k' < cs.length := by omega
  have e2 : IP.ixN cs.length (k' : Int) = some k' := ixN_nat hl
  have e3 : cs[k']? = some cs[k'] := List.getElem?_eq_getElem hl
  refine ⟨cs[k'], xs1, ?_, List.getElem_mem hl, hx1⟩
  rw [run__law_pick]
  simp [F__law_pick, e1, e2, e3]
theorem I_prime (n : Nat) {ns : List Int} {xs : List D} (h : RowOk ns xs) : ∃ p xs', run (n + 3) "_law_prime" (some xs) [] = some (.dat (.int p), some xs') ∧ isPrime p ∧ RowOk ns xs' := by
  obtain ⟨v, xs1, e1, hv, hx1⟩ := I_pick n h (cs := [2, 2, 3, 5, 7]) (by decide) (by decide)
  simp only [iL, List.map_cons, List.map_nil] at e1
  refine ⟨v, xs1, ?_, ?_, hx1⟩
  · rw [run__law_prime]
    simp [F__law_prime, e1, line]
  · simp at hv
    unfold isPrime
    omega
theorem I_taps (n : Nat) {ns : List Int} {xs : List D} (h : RowOk ns xs) {p m : Int} (hp : isPrime p) (hm0 : 0 ≤ m) (hm : m < 1000000) : ∃ a b xs', run (n + 2) "_law_taps" (some xs) [.int p, .int m] = some (.dat (.tuple [iT a, iT b]), some xs') ∧ nums p a ∧ nums p b ∧ b.length = a.length ∧ (a.length : Int) ≤ m ∧ RowOk ns xs' := by
  have pp := prime_pos hp
  obtain ⟨k, xs1, e1, hk, hx1⟩ := I_taken n h (m := m + 1) (by omega) (by omega)
  obtain ⟨k', rfl⟩ : ∃ k' : Nat, (k' : Int) = k := ⟨k.toNat, by omega⟩
  have hr : (rangeD 0 ((k' : Int)).toNat).length = k' := by simp [rangeD]
  obtain ⟨a, xs2, e2, hl2, hn2, hx2⟩ := lc_draws n (by omega) (by omega) 3 [.dat (.int m), .dat (.int k'), .un, .un] rfl (rangeD 0 ((k' : Int)).toNat) (rangeD 0 ((k' : Int)).toNat) xs1 hx1 (p := p)
  obtain ⟨b, xs3, e3, hl3, hn3, hx3⟩ := lc_draws n (by omega) (by omega) 3 [.dat (.int m), .dat (.int k'), .dat (iT a), .un] rfl (rangeD 0 ((k' : Int)).toNat) (rangeD 0 ((k' : Int)).toNat) xs2 hx2 (p := p)
  rw [hr] at hl2 hl3
  simp only [Nat.reduceAdd] at e2 e3
  refine ⟨a, b, xs3, ?_, hn2, hn3, by omega, by omega, hx3⟩
  have c1 : (0 : Int) ≤ k' := by omega
  have f1 := vLc_at (δ := [.prm xs1, .dat (.int p), .dat (.int m), .dat (.int k'), .un, .un]) (iRange1_at (f := oVar 3) (δ1 := [.prm xs1, .dat (.int p), .dat (.int m), .dat (.int k'), .un, .un]) (j := k') rfl (by omega)) (vs := [5]) (δ2 := [.prm xs1, .dat (.int p), .dat (.int m), .dat (.int k'), .un, .un]) rfl (by rw [hr]; show k' ≤ 16000000; omega) e2
  have f2 := vLc_at (δ := [.prm xs2, .dat (.int p), .dat (.int m), .dat (.int k'), .dat (iT a), .un]) (iRange1_at (f := oVar 3) (δ1 := [.prm xs2, .dat (.int p), .dat (.int m), .dat (.int k'), .dat (iT a), .un]) (j := k') rfl (by omega)) (vs := [5]) (δ2 := [.prm xs2, .dat (.int p), .dat (.int m), .dat (.int k'), .dat (iT a), .un]) rfl (by rw [hr]; show k' ≤ 16000000; omega) e3
  rw [run__law_taps]
  refine fn_ref (δ := [.prm xs3, .dat (.int p), .dat (.int m), .dat (.int k'), .dat (iT a), .un]) rfl rfl ?_ rfl
  show sSeq _ _ [.prm xs, .dat (.int p), .dat (.int m), .un, .un, .un] = _
  rw [sSeq_nx (δ1 := [.prm xs1, .dat (.int p), .dat (.int m), .dat (.int k'), .un, .un]) (by simp [e1])]
  rw [sSeq_nx (sSet_at (tuple_at f1) (δ2 := [.prm xs2, .dat (.int p), .dat (.int m), .dat (.int k'), .dat (iT a), .un]) rfl)]
  exact sRet_at (vTup2_at (f := oVar 4) (δ1 := [.prm xs2, .dat (.int p), .dat (.int m), .dat (.int k'), .dat (iT a), .un]) (x := iT a) rfl (oV_at (tuple_at f2)))
theorem I_row (n : Nat) {ns : List Int} {xs : List D} (h : RowOk ns xs) {p m : Int} (hp : isPrime p) (hm0 : 0 ≤ m) (hm : m < 1000000) : ∃ a xs', run (n + 2) "_law_row" (some xs) [.int p, .int m] = some (.dat (iT a), some xs') ∧ nums p a ∧ (a.length : Int) ≤ m ∧ RowOk ns xs' := by
  have pp := prime_pos hp
  obtain ⟨k, xs1, e1, hk, hx1⟩ := I_taken n h (m := m + 1) (by omega) (by omega)
  obtain ⟨k', rfl⟩ : ∃ k' : Nat, (k' : Int) = k := ⟨k.toNat, by omega⟩
  have hr : (rangeD 0 ((k' : Int)).toNat).length = k' := by simp [rangeD]
  obtain ⟨a, xs2, e2, hl2, hn2, hx2⟩ := lc_draws n (by omega) (by omega) 1 [.dat (.int m), .un] rfl (rangeD 0 ((k' : Int)).toNat) (rangeD 0 ((k' : Int)).toNat) xs1 hx1 (p := p)
  rw [hr] at hl2
  simp only [Nat.reduceAdd] at e2
  refine ⟨a, xs2, ?_, hn2, by omega, hx2⟩
  have f1 := vLc_at (δ := [.prm xs, .dat (.int p), .dat (.int m), .un]) (iRange1_at (f := oV (vCallR (run (n + 1) "_law_taken") 0 (aCons (oV (fBin bAdd (oVar 2) (oV (vC (.int 1))))) aNil))) (δ1 := [.prm xs1, .dat (.int p), .dat (.int m), .un]) (j := k') (by simp [e1]) (by omega)) (vs := [3]) (δ2 := [.prm xs1, .dat (.int p), .dat (.int m), .un]) rfl (by rw [hr]; show k' ≤ 16000000; omega) e2
  rw [run__law_row]
  refine fn_ref (δ := [.prm xs2, .dat (.int p), .dat (.int m), .un]) rfl rfl ?_ rfl
  show sRet _ [.prm xs, .dat (.int p), .dat (.int m), .un] = _
  simp only [sRet, vBi, aCons, oV, f1, oVar]
  simp
theorem fBin_at {op : D → D → Option Res} {f g : Eo} {δ δ1 δ2 : Env} {x y : D} {r : Res} (h1 : f δ = some (.val x, δ1)) (h2 : g δ1 = some (.val y, δ2)) (h3 : op x y = some r) : fBin op f g δ = some (r, δ2) := by
  simp only [fBin, h1, h2, h3, Option.bind_some, Option.map_some, rd]
theorem sIf_t {t : Et} {a b : Es} {δ δ1 : Env} (h : t δ = some (true, δ1)) : sIf t a b δ = a δ1 := by
  rw [sIf, h]
  rfl
theorem sIf_f {t : Et} {a b : Es} {δ δ1 : Env} (h : t δ = some (false, δ1)) : sIf t a b δ = b δ1 := by
  rw [sIf, h]
  rfl
theorem I_alike_int (n : Nat) (v : Int) : run (n + 1) "_law_alike" none [.int v, .int v] = some (.dat (.bool true), none) := by
  rw [run__law_alike]
  simp [F__law_alike]
theorem I_alike_none (n : Nat) : run (n + 1) "_law_alike" none [.none, .none] = some (.dat (.bool true), none) := by
  rw [run__law_alike]
  simp [F__law_alike]
theorem I_alike_opt (n : Nat) (o : Option Nat) : run (n + 1) "_law_alike" none [optN o, optN o] = some (.dat (.bool true), none) := by
  cases o with
  | none => exact I_alike_none n
  | some k => exact I_alike_int n k
theorem I_alike_row (n : Nat) (xs : List Int) (hl : xs.length ≤ 1000) : run (n + 2) "_law_alike" none [iT xs, iT xs] = some (.dat (.bool true), none) := by
  have hr : (rangeD 0 ((xs.length : Int)).toNat).length = xs.length := by simp [rangeD]
  have e1 : lcGo [2] (.nm 2) (tNot (tV (oV (vCall (run (n + 1) "_law_alike") (aCons (oV (fBin bIx (oVar 0) (oVar 2))) (aCons (oV (fBin bIx (oVar 1) (oVar 2))) aNil)))))) (vVar 2) (rangeD 0 ((xs.length : Int)).toNat) none (rangeD 0 ((xs.length : Int)).toNat) [.dat (iT xs), .dat (iT xs), .un] = some ([], [.dat (iT xs), .dat (iT xs), .un]) := by
    have h := lcGo_pure (vs := [2]) (g := .nm 2) (t := tNot (tV (oV (vCall (run (n + 1) "_law_alike") (aCons (oV (fBin bIx (oVar 0) (oVar 2))) (aCons (oV (fBin bIx (oVar 1) (oVar 2))) aNil)))))) (e := vVar 2) (src := rangeD 0 ((xs.length : Int)).toNat) (ow := none) (δ := [.dat (iT xs), .dat (iT xs), .un]) (fun (k : Nat) => .int ((k : Int))) (fun _ => none) rfl (List.range xs.length) (by
      intro k hk
      have hk' := List.mem_range.mp hk
      have f1 : IP.ixN xs.length (k : Int) = some k := ixN_nat hk'
      have f2 : xs[k]? = some xs[k] := List.getElem?_eq_getElem hk'
      simp [f1, f2, I_alike_int])
    rw [show (List.range xs.length).map (fun (k : Nat) => PyData.int ((k : Int))) = rangeD 0 ((xs.length : Int)).toNat by simp [rangeD]] at h
    rw [h, List.filterMap_eq_nil_iff.mpr fun _ _ => rfl]
  have f1 := vLc_at (δ := [.dat (iT xs), .dat (iT xs), .un]) (iRange1_at (f := oV (vBi biLen (aCons (oVar 1) aNil))) (δ1 := [.dat (iT xs), .dat (iT xs), .un]) (j := xs.length) (by simp) (by omega)) (vs := [2]) (δ2 := [.dat (iT xs), .dat (iT xs), .un]) rfl (by rw [hr]; show xs.length ≤ 16000000; omega) e1
  rw [run__law_alike]
  refine fn_val (δ := [.dat (iT xs), .dat (iT xs), .un]) rfl rfl ?_
  show sSeq (sIf _ (sSeq _ (sSeq _ (sRet _))) _) _ [.dat (iT xs), .dat (iT xs), .un] = _
  refine sSeq_rt ?_
  rw [sIf_t (δ1 := [.dat (iT xs), .dat (iT xs), .un]) (by simp)]
  rw [sSeq_nx (δ1 := [.dat (iT xs), .dat (iT xs), .un]) (by rw [sIf_f (δ1 := [.dat (iT xs), .dat (iT xs), .un]) (by simp)]; rfl)]
  rw [sSeq_nx (δ1 := [.dat (iT xs), .dat (iT xs), .un]) (by rw [sIf_f (δ1 := [.dat (iT xs), .dat (iT xs), .un]) (by simp)]; rfl)]
  refine sRet_at ?_
  exact fBin_at (oV_at f1) (y := .list []) rfl (by simp)
abbrev itemAt (i j a v : Nat) : Ev := fBin bMul (oV (fBin bIx (oVar i) (oVar v))) (oV (fBin bIx (oVar j) (oV (fBin bSub (oV (fBin bSub (oVar a) (oV (vC (.int 1))))) (oVar v)))))
abbrev termAt (i j a v q : Nat) : Ev := fBin bMod (oV (vBi biInt (aCons (oV (vBi biSum (aCons (oV (vLc [v] (iRange1 (oV (vBi biLen (aCons (oVar i) aNil)))) (.nm v) tYes (itemAt i j a v))) aNil))) aNil))) (oVar q)
theorem oVar_dat {δ : Env} {i : Nat} {d : D} (h : δ[i]? = some (.dat d)) : oVar i δ = some (.val d, δ) := by
  simp only [oVar, h]
theorem nextN_take {p : Int} {ts row : List Int} {at' : Nat} (h1 : ts.length ≤ at') (h2 : at' ≤ row.length) : nextN p ts (row.take at') = ((List.range ts.length).map fun k => ts.getD k 0 * row.getD (at' - 1 - k) 0).sum % p := by
  unfold nextN
  rw [List.length_take, Nat.min_eq_left h2]
  congr 2
  apply List.map_congr_left
  intro k hk
  have := List.mem_range.mp hk
  have e : (row.take at')[at' - 1 - k]? = row[at' - 1 - k]? := List.getElem?_take_of_lt (by omega)
  simp only [List.getD_eq_getElem?_getD, e]
theorem term_at {p : Int} (hp : isPrime p) {ts row : List Int} (ht : nums p ts) (hl2 : ts.length ≤ 60) {at' : Nat} (h1 : ts.length ≤ at') (h2 : at' ≤ row.length) {δ : Env} {i j a v q : Nat} (hi : δ[i]? = some (.dat (iT ts))) (hj : δ[j]? = some (.dat (iT row)) ∨ δ[j]? = some (.own (row.map .int))) (ha : δ[a]? = some (.dat (.int at'))) (hv : δ[v]? = some .un) (hq : δ[q]? = some (.dat (.int p))) (ni : v ≠ i) (nj : v ≠ j) (na : v ≠ a) : termAt i j a v q δ = some (.dat (.int (nextN p ts (row.take at'))), δ) := by
  have pp := prime_pos hp
  have hr : (rangeD 0 ((ts.length : Int)).toNat).length = ts.length := by simp [rangeD]
  have vl : v < δ.length := by
    rcases Nat.lt_or_ge v δ.length with h | h
    · exact h
    · rw [List.getElem?_eq_none h] at hv
      cases hv
  have e1 : lcGo [v] (.nm v) tYes (itemAt i j a v) (rangeD 0 ((ts.length : Int)).toNat) none (rangeD 0 ((ts.length : Int)).toNat) δ = some (((List.range ts.length).map fun k => ts.getD k 0 * row.getD (at' - 1 - k) 0).map .int, δ) := by
    have h := lcGo_map (vs := [v]) (g := .nm v) (t := tYes) (e := itemAt i j a v) (src := rangeD 0 ((ts.length : Int)).toNat) (ow := none) (δ := δ) (fun (k : Nat) => .int ((k : Int))) (fun k => .int (ts.getD k 0 * row.getD (at' - 1 - k) 0)) rfl (List.range ts.length) (by
      intro k hk
      have hk' := List.mem_range.mp hk
      have g1 : (δ.set v (.dat (.int (k : Int))))[i]? = some (.dat (iT ts)) := by rw [List.getElem?_set_ne ni, hi]
      have g3 : (δ.set v (.dat (.int (k : Int))))[a]? = some (.dat (.int at')) := by rw [List.getElem?_set_ne na, ha]
      have g4 : (δ.set v (.dat (.int (k : Int))))[v]? = some (.dat (.int (k : Int))) := by simp [vl]
      have g5 : (δ.set v (.dat (.int (k : Int)))).set v .un = δ := by rw [List.set_set, set_self δ v _ hv]
      have gp : (Tg.nm v).put (.int (k : Int)) δ = some (δ.set v (.dat (.int (k : Int)))) := by simp only [Tg.put, setSlot, hv]
      have f1 : IP.ixN ts.length (k : Int) = some k := ixN_nat hk'
      obtain ⟨x, f2⟩ : ∃ x, ts[k]? = some x := ⟨ts[k], List.getElem?_eq_getElem hk'⟩
      have f3 : IP.ixN row.length ((at' : Int) - 1 - k) = some (at' - 1 - k) := by
        rw [show (at' : Int) - 1 - k = ((at' - 1 - k : Nat) : Int) by omega]
        exact ixN_nat (by omega)
      obtain ⟨y, f4⟩ : ∃ y, row[at' - 1 - k]? = some y := ⟨row[at' - 1 - k]'(by omega), List.getElem?_eq_getElem (by omega)⟩
      have hb : 0 ≤ x ∧ x < p := ht x (List.mem_of_getElem? f2)
      have hc : -18446744073709551616 < x ∧ x < 18446744073709551616 := ⟨by omega, by omega⟩
      have w1 : ts.getD k 0 = x := by simp [f2]
      have w2 : row.getD (at' - 1 - k) 0 = y := by simp [f4]
      rw [w1, w2]
      unfold lcTurn
      rw [gp]
      rcases hj with hj | hj
      · have g2 : (δ.set v (.dat (.int (k : Int))))[j]? = some (.dat (iT row)) := by rw [List.getElem?_set_ne nj, hj]
        generalize δ.set v (.dat (.int (k : Int))) = δ1 at g1 g2 g3 g4 g5
        simp [itemAt, g1, g2, g3, g4, g5, f1, f2, f3, f4, hc]
      · have g2 : (δ.set v (.dat (.int (k : Int))))[j]? = some (.own (row.map .int)) := by rw [List.getElem?_set_ne nj, hj]
        generalize δ.set v (.dat (.int (k : Int))) = δ1 at g1 g2 g3 g4 g5
        simp [itemAt, g1, g2, g3, g4, g5, f1, f2, f3, f4, hc])
    rw [show (List.range ts.length).map (fun (k : Nat) => PyData.int ((k : Int))) = rangeD 0 ((ts.length : Int)).toNat by simp [rangeD]] at h
    rw [h, List.map_map]
    rfl
  have f0 : oV (vBi biLen (aCons (oVar i) aNil)) δ = some (.val (.int ts.length), δ) := by simp [hi]
  have f1 := vLc_at (δ := δ) (iRange1_at f0 (by omega)) (vs := [v]) (δ2 := δ) (by simp only [unAll, hv]) (by rw [hr]; show ts.length ≤ 16000000; omega) e1
  have f2 : backAll δ [v] δ = δ := by simp only [backAll, hv, set_self δ v _ hv]
  rw [f2] at f1
  rw [nextN_take h1 h2]
  have f3 : vBi biSum (aCons (oV (vLc [v] (iRange1 (oV (vBi biLen (aCons (oVar i) aNil)))) (.nm v) tYes (itemAt i j a v))) aNil) δ = some (.dat (.int ((List.range ts.length).map fun k => ts.getD k 0 * row.getD (at' - 1 - k) 0).sum), δ) := by
    simp only [vBi, aCons, aNil, oV_at f1, Option.bind_some, Option.map_some, rdAll, rd, Res.toD, biSum, intsOf_map]
  have f4 : vBi biInt (aCons (oV (vBi biSum (aCons (oV (vLc [v] (iRange1 (oV (vBi biLen (aCons (oVar i) aNil)))) (.nm v) tYes (itemAt i j a v))) aNil))) aNil) δ = some (.dat (.int ((List.range ts.length).map fun k => ts.getD k 0 * row.getD (at' - 1 - k) 0).sum), δ) := by
    rw [vBi, aCons, oV_at f3]
    rfl
  refine fBin_at (oV_at f4) (oVar_dat hq) ?_
  have : 0 < p := by omega
  simp only [Res.toD, bMod, if_pos this]
theorem sApp_at {f : Ev} {δ δ1 : Env} {i : Nat} {r : Res} {xs : List D} (h0 : ownAt δ i = true) (h : f δ = some (r, δ1)) (h2 : δ1[i]? = some (.own xs)) (h3 : xs.length < line) : sApp i f δ = some (.nx, δ1.set i (.own (xs ++ [r.toD]))) := by
  simp only [sApp, h0, if_true, h, Option.bind_some, withOwn, h2, if_pos h3, Option.map_some]
theorem forGo_nx {g : Tg} {b : Es} {x : D} {xs : List D} {δ δ1 δ2 : Env} (h1 : g.put x δ = some δ1) (h2 : b δ1 = some (.nx, δ2)) : forGo g b (x :: xs) δ = forGo g b xs δ2 := by
  rw [forGo, h1, Option.bind_some, h2, Option.bind_some]
theorem fnV {F : Fn} {ds : List D} {r : Res} {δ0 δ : Env} {a b : Es} (hb : F.byRef = false) (hl : ds.length = F.nps) (hB : F.body = sSeq a b) (he : ds.map .dat ++ List.replicate (F.names - F.nps) .un = δ0) (h : sSeq a b δ0 = some (.rt r, δ)) : F.run none ds = some (r, none) :=
  fn_val hb hl (by rw [hB, he, h])
theorem rangeD_succ (lo : Int) (m : Nat) : rangeD lo (m + 1) = .int lo :: rangeD (lo + 1) m := by
  unfold rangeD
  rw [List.range_succ_eq_map, List.map_cons, List.map_map]
  congr 1
  · simp
  · apply List.map_congr_left
    intro k _
    simp
    omega
theorem law_run_loop {p : Int} (hp : isPrime p) {ts : List Int} (ht : nums p ts) (hl2 : ts.length ≤ 60) (x y : Slot) : ∀ (m : Nat) (row : List Int) (s : Slot), ts.length ≤ row.length → row.length + m ≤ 400 → (s = .un ∨ ∃ d, s = .dat d) →
    ∃ s', forGo (.nm 5) (sApp 4 (termAt 1 4 5 6 0)) (rangeD row.length m) [.dat (.int p), .dat (iT ts), x, y, .own (row.map .int), s, .un] = some (.nx, [.dat (.int p), .dat (iT ts), x, y, .own ((grow p ts m row).map .int), s', .un])
  | 0, row, s, _, _, _ => ⟨s, rfl⟩
  | m + 1, row, s, h1, h2, hs => by
    have e1 := term_at hp ht hl2 h1 (Nat.le_refl row.length) (δ := [.dat (.int p), .dat (iT ts), x, y, .own (row.map .int), .dat (.int row.length), .un]) (i := 1) (j := 4) (a := 5) (v := 6) (q := 0) rfl (.inr rfl) rfl rfl rfl (by decide) (by decide) (by decide)
    rw [List.take_length] at e1
    obtain ⟨s', e2⟩ := law_run_loop hp ht hl2 x y m (row ++ [nextN p ts row]) (.dat (.int row.length)) (by simp; omega) (by simp; omega) (.inr ⟨_, rfl⟩)
    refine ⟨s', ?_⟩
    rw [rangeD_succ]
    have e3 : (Tg.nm 5).put (.int row.length) [.dat (.int p), .dat (iT ts), x, y, .own (row.map .int), s, .un] = some [.dat (.int p), .dat (iT ts), x, y, .own (row.map .int), .dat (.int row.length), .un] := by
      rcases hs with rfl | ⟨d, rfl⟩ <;> rfl
    have e4 : (row.map PyData.int).length < line := by rw [List.length_map]; show row.length < 16000000; omega
    have e5 : sApp 4 (termAt 1 4 5 6 0) [.dat (.int p), .dat (iT ts), x, y, .own (row.map .int), .dat (.int row.length), .un] = some (.nx, [.dat (.int p), .dat (iT ts), x, y, .own ((row ++ [nextN p ts row]).map .int), .dat (.int row.length), .un]) := by
      rw [sApp_at rfl e1 rfl e4, List.map_append]
      rfl
    rw [forGo_nx e3 e5, grow, ← e2]
    rw [show ((row ++ [nextN p ts row]).length : Int) = (row.length : Int) + 1 by simp]
theorem I_law_run (n : Nat) {p : Int} {ts st : List Int} (hp : isPrime p) (ht : nums p ts) (hl : st.length = ts.length) (hl2 : ts.length ≤ 60) (c : Nat) (hc : c ≤ 400) : run (n + 1) "_law_run" none [.int p, iT ts, iT st, .int c] = some (.dat (iT (firstN p ts st c)), none) := by
  rw [run__law_run]
  obtain ⟨s, e1⟩ := law_run_loop hp ht hl2 (.dat (iT st)) (.dat (.int c)) (c - ts.length) st .un (by omega) (by omega) (.inl rfl)
  have e2 := iRange2_at (f := oV (vBi biLen (aCons (oVar 1) aNil))) (g := oVar 3) (δ := [.dat (.int p), .dat (iT ts), .dat (iT st), .dat (.int c), .own (st.map .int), .un, .un]) (δ1 := [.dat (.int p), .dat (iT ts), .dat (iT st), .dat (.int c), .own (st.map .int), .un, .un]) (δ2 := [.dat (.int p), .dat (iT ts), .dat (iT st), .dat (.int c), .own (st.map .int), .un, .un]) (i := ts.length) (j := c) (by simp) rfl (by omega) (by omega)
  rw [show ((c : Int) - ts.length).toNat = c - ts.length by omega, show (ts.length : Int) = st.length by omega] at e2
  refine fnV (δ := [.dat (.int p), .dat (iT ts), .dat (iT st), .dat (.int c), .own ((grow p ts (c - ts.length) st).map .int), s, .un]) (δ0 := [.dat (.int p), .dat (iT ts), .dat (iT st), .dat (.int c), .un, .un, .un]) rfl rfl rfl rfl ?_
  rw [sSeq_nx (δ1 := [.dat (.int p), .dat (iT ts), .dat (iT st), .dat (.int c), .own (st.map .int), .un, .un]) (by simp)]
  rw [sSeq_nx (sFor_at e2 e1)]
  refine sRet_at ?_
  have hg : (grow p ts (c - ts.length) st).length = st.length + (c - ts.length) := grow_length ..
  have e3 : cutD ((grow p ts (c - ts.length) st).map .int) none (some (c : Int)) = (firstN p ts st c).map .int := by
    have e5 : (grow p ts (c - ts.length) st).take c = firstN p ts st c := by
      unfold firstN
      by_cases h : c ≤ ts.length
      · rw [show c - ts.length = 0 by omega]
        rfl
      · rw [List.take_of_length_le (by omega), List.take_of_length_le (by omega)]
    rw [cutD_ints, clamp_nat (by omega), show clampIx (grow p ts (c - ts.length) st).length 0 none = 0 from rfl, List.drop_zero, Nat.sub_zero, e5]
  refine tuple_at ?_
  simp only [fSl, oVar, pNo, pSo, List.getElem?_cons_succ, List.getElem?_cons_zero, Option.bind_some, rd, slotD, e3]
theorem tB_at {f : Ev} {δ δ1 : Env} {b : Bool} (h : f δ = some (.dat (.bool b), δ1)) : tB f δ = some (b, δ1) := by
  rw [tB, h]
  rfl
theorem aCons_at {f : Eo} {g : Ea} {δ δ1 δ2 : Env} {o : Opd} {os : List Opd} (h : f δ = some (o, δ1)) (h2 : g δ1 = some (os, δ2)) : aCons f g δ = some (o :: os, δ2) := by
  rw [aCons, h, Option.bind_some, h2]
  rfl
theorem aNil_at {δ : Env} : aNil δ = some ([], δ) := rfl
theorem vCallR_at {c : Fnc} {i : Nat} {f : Ea} {δ δ1 : Env} {os : List Opd} {ds xs ys : List D} {r : Res} (h0 : ownAt δ i = true) (h1 : f δ = some (os, δ1)) (hv : vals os = some ds) (h2 : δ1[i]? = some (.own xs)) (h3 : c (some xs) ds = some (r, some ys)) : vCallR c i f δ = some (r, δ1.set i (.own ys)) := by
  simp only [vCallR, h0, if_true, h1, Option.bind_some, hv, h2, h3]
theorem vCall_at {c : Fnc} {f : Ea} {δ δ1 : Env} {os : List Opd} {ds : List D} {r : Res} (h1 : f δ = some (os, δ1)) (h2 : rdAll δ1 os = some ds) (h0 : anyAt os = false) (h3 : c none ds = some (r, none)) : vCall c f δ = some (r, δ1) := by
  simp only [vCall, h1, Option.bind_some, h2, h3, h0, if_true]
theorem sUnp_at {is : List Nat} {f : Ev} {δ δ1 δ2 : Env} {ds : List D} (h : f δ = some (.dat (.tuple ds), δ1)) (h2 : setDs δ1 is ds = some δ2) : sUnp is f δ = some (.nx, δ2) := by
  rw [sUnp, h, Option.bind_some]
  show (setDs δ1 is ds).map _ = _
  rw [h2]
  rfl
theorem tNotV_at {f : Ev} {δ δ1 : Env} (h : f δ = some (.dat (.bool true), δ1)) : tNot (tV (oV f)) δ = some (false, δ1) := by
  rw [tNot, tV, oV_at h]
  rfl
theorem tOr_ff {f g : Et} {δ δ1 δ2 : Env} {b : Bool} (h : f δ = some (false, δ1)) (h2 : g δ1 = some (b, δ2)) : tOr f g δ = some (b, δ2) := by
  rw [tOr, h, Option.bind_some]
  exact h2
theorem vC_at {d : D} {δ : Env} : oV (vC d) δ = some (.val d, δ) := rfl
theorem draw_at (n : Nat) {ns : List Int} {xs : List D} {δ δ1 : Env} {i : Nat} {f : Eo} {m : Int} (hi : ownAt δ i = true) (hf : f δ = some (.val (.int m), δ1)) (ho : δ1[i]? = some (.own xs)) (hx : RowOk ns xs) (h0 : 0 < m) (h1 : m < 1073741824) :
    ∃ k ys, vCallR (run (n + 1) "_law_taken") i (aCons f aNil) δ = some (.dat (.int k), δ1.set i (.own ys)) ∧ (0 ≤ k ∧ k < m) ∧ RowOk ns ys := by
  obtain ⟨k, ys, e1, hk, hy⟩ := I_taken n hx h0 h1
  exact ⟨k, ys, vCallR_at hi (aCons_at hf aNil_at) rfl ho e1, hk, hy⟩
abbrev pick3 (n : Nat) (a b c : Int) : Ev := fBin bIx (oV (vLst (aCons (oV (vC (.int a))) (aCons (oV (vC (.int b))) (aCons (oV (vC (.int c))) aNil))))) (oV (vCallR (run (n + 1) "_law_taken") 1 (aCons (oV (vC (.int 3))) aNil)))
theorem pick3_at (n : Nat) {ns : List Int} {xs : List D} {δ : Env} (ho : δ[1]? = some (.own xs)) (hx : RowOk ns xs) (a b c : Int) :
    ∃ v ys, pick3 n a b c δ = some (.dat (.int v), δ.set 1 (.own ys)) ∧ (v = a ∨ v = b ∨ v = c) ∧ RowOk ns ys := by
  obtain ⟨k, ys, e1, hk, hy⟩ := draw_at n (i := 1) (δ := δ) (f := oV (vC (.int 3))) (m := 3) (by simp only [ownAt, ho]) rfl ho hx (by decide) (by decide)
  have e0 : oV (vLst (aCons (oV (vC (.int a))) (aCons (oV (vC (.int b))) (aCons (oV (vC (.int c))) aNil)))) δ = some (.val (.list [.int a, .int b, .int c]), δ) := by simp [line]
  have h : k = 0 ∨ k = 1 ∨ k = 2 := by omega
  rcases h with rfl | rfl | rfl
  · exact ⟨a, ys, fBin_at e0 (oV_at e1) rfl, .inl rfl, hy⟩
  · exact ⟨b, ys, fBin_at e0 (oV_at e1) rfl, .inr (.inl rfl), hy⟩
  · exact ⟨c, ys, fBin_at e0 (oV_at e1) rfl, .inr (.inr rfl), hy⟩
theorem call3 {c : Fnc} {δ : Env} {i j k : Nat} {x y z : D} {r : Res} (hi : δ[i]? = some (.dat x)) (hj : δ[j]? = some (.dat y)) (hk : δ[k]? = some (.dat z)) (h : c none [x, y, z] = some (r, none)) : vCall c (aCons (oVar i) (aCons (oVar j) (aCons (oVar k) aNil))) δ = some (r, δ) :=
  vCall_at (aCons_at (oVar_dat hi) (aCons_at (oVar_dat hj) (aCons_at (oVar_dat hk) aNil_at))) rfl rfl h
theorem call4 {c : Fnc} {δ : Env} {i j k l : Nat} {x y z u : D} {r : Res} (hi : δ[i]? = some (.dat x)) (hj : δ[j]? = some (.dat y)) (hk : δ[k]? = some (.dat z)) (hl : δ[l]? = some (.dat u)) (h : c none [x, y, z, u] = some (r, none)) : vCall c (aCons (oVar i) (aCons (oVar j) (aCons (oVar k) (aCons (oVar l) aNil)))) δ = some (r, δ) :=
  vCall_at (aCons_at (oVar_dat hi) (aCons_at (oVar_dat hj) (aCons_at (oVar_dat hk) (aCons_at (oVar_dat hl) aNil_at)))) rfl rfl h
theorem call2 {c : Fnc} {f g : Eo} {δ δ1 δ2 : Env} {x y : D} {r : Res} (hf : f δ = some (.val x, δ1)) (hg : g δ1 = some (.val y, δ2)) (h : c none [x, y] = some (r, none)) : vCall c (aCons f (aCons g aNil)) δ = some (r, δ2) :=
  vCall_at (aCons_at hf (aCons_at hg aNil_at)) rfl rfl h
theorem len_at {δ : Env} {i : Nat} {xs : List Int} (h : δ[i]? = some (.dat (iT xs))) : oV (vBi biLen (aCons (oVar i) aNil)) δ = some (.val (.int xs.length), δ) := by
  simp [h]
theorem cut_hi {δ : Env} {i : Nat} {f : Eo} {xs : List Int} {a : Nat} (h : δ[i]? = some (.dat (iT xs))) (hf : f δ = some (.val (.int a), δ)) : fSl (oVar i) pNo (pSo f) δ = some (.dat (iT (xs.take a)), δ) := by
  have e : cutD (xs.map .int) none (some (a : Int)) = (xs.take a).map .int := by
    rw [cutD_ints, show clampIx xs.length 0 none = 0 from rfl, List.drop_zero, Nat.sub_zero]
    have e2 : clampIx xs.length xs.length (some (a : Int)) = min a xs.length := by
      simp only [clampIx]
      rw [if_neg (by omega), Int.toNat_natCast]
    rw [e2]
    by_cases h : a ≤ xs.length
    · rw [Nat.min_eq_left h]
    · rw [Nat.min_eq_right (by omega), List.take_of_length_le (Nat.le_refl _), List.take_of_length_le (by omega)]
  simp only [fSl, oVar_dat h, pNo, pSo, hf, Option.bind_some, rd, e]
theorem cut_lo {δ : Env} {i : Nat} {f : Eo} {xs : List Int} {a : Nat} (h : δ[i]? = some (.dat (iT xs))) (hf : f δ = some (.val (.int a), δ)) (ha : a ≤ xs.length) : fSl (oVar i) (pSo f) pNo δ = some (.dat (iT (xs.drop a)), δ) := by
  have e : cutD (xs.map .int) (some (a : Int)) none = (xs.drop a).map .int := by
    rw [cutD_ints, clamp_nat ha, show clampIx xs.length xs.length none = xs.length from rfl, List.take_of_length_le (by rw [List.length_drop]; exact Nat.le_refl _)]
  simp only [fSl, oVar_dat h, pNo, pSo, hf, Option.bind_some, rd, e]
theorem add_rows {f g : Eo} {δ δ1 δ2 : Env} {a b : List Int} (h1 : f δ = some (.val (iT a), δ1)) (h2 : g δ1 = some (.val (iT b), δ2)) (hl : a.length + b.length ≤ 1000) : fBin bAdd f g δ = some (.dat (iT (a ++ b)), δ2) := by
  refine fBin_at h1 h2 ?_
  have : (a.map PyData.int).length + (b.map PyData.int).length ≤ line := by rw [List.length_map, List.length_map]; show _ ≤ 16000000; omega
  simp only [bAdd, if_pos this, iT, List.map_append]
theorem vTup1_at {f : Eo} {δ δ1 : Env} {x : Int} (h : f δ = some (.val (.int x), δ1)) : vTup (aCons f aNil) δ = some (.dat (iT [x]), δ1) := by
  simp only [vTup, aCons, aNil, h, Option.bind_some, Option.map_some, vals]
  rfl
theorem add_at {f g : Eo} {δ δ1 δ2 : Env} {a b : Int} (h1 : f δ = some (.val (.int a), δ1)) (h2 : g δ1 = some (.val (.int b), δ2)) : fBin bAdd f g δ = some (.dat (.int (a + b)), δ2) := fBin_at h1 h2 rfl
theorem sub_at {f g : Eo} {δ δ1 δ2 : Env} {a b : Int} (h1 : f δ = some (.val (.int a), δ1)) (h2 : g δ1 = some (.val (.int b), δ2)) : fBin bSub f g δ = some (.dat (.int (a - b)), δ2) := fBin_at h1 h2 rfl
theorem int_at {f : Ev} {δ δ1 : Env} {a : Int} (h : f δ = some (.dat (.int a), δ1)) : vBi biInt (aCons (oV f) aNil) δ = some (.dat (.int a), δ1) := by
  rw [vBi, aCons, oV_at h]
  rfl
theorem mod_at {f g : Eo} {δ δ1 δ2 : Env} {a b : Int} (h1 : f δ = some (.val (.int a), δ1)) (h2 : g δ1 = some (.val (.int b), δ2)) (h : 0 < b) : fBin bMod f g δ = some (.dat (.int (a % b)), δ2) := fBin_at h1 h2 (by simp only [bMod, if_pos h])
theorem ix_at {f g : Eo} {δ δ1 δ2 : Env} {xs : List Int} {a : Nat} (h1 : f δ = some (.val (iT xs), δ1)) (h2 : g δ1 = some (.val (.int a), δ2)) (h : a < xs.length) : fBin bIx f g δ = some (.dat (.int (xs.getD a 0)), δ2) := by
  refine fBin_at h1 h2 ?_
  have f1 : IP.ixN xs.length (a : Int) = some a := ixN_nat h
  obtain ⟨v, f2⟩ : ∃ v, xs[a]? = some v := ⟨xs[a], List.getElem?_eq_getElem h⟩
  have f3 : xs.getD a 0 = v := by simp [f2]
  rw [f3]
  simp [f1, f2]
end IPL
end
section
set_option linter.all false
set_option maxRecDepth 20000
namespace IPL
open IP
open PySem (PyData)
/-! ### sums -/
def sg (f : Nat → Int) : Nat → Int
  | 0 => 0
  | n + 1 => sg f n + f n
theorem sg_congr {f g : Nat → Int} : ∀ {n : Nat}, (∀ j, j < n → f j = g j) → sg f n = sg g n
  | 0, _ => rfl
  | n + 1, h => by rw [sg, sg, sg_congr fun j hj => h j (by omega), h n (by omega)]
theorem sg_zero {f : Nat → Int} : ∀ {n : Nat}, (∀ j, j < n → f j = 0) → sg f n = 0
  | 0, _ => rfl
  | n + 1, h => by rw [sg, sg_zero fun j hj => h j (by omega), h n (by omega)]; rfl
theorem sg_more {f : Nat → Int} {n : Nat} : ∀ (m : Nat), (∀ j, n ≤ j → f j = 0) → sg f (n + m) = sg f n
  | 0, _ => rfl
  | m + 1, h => by
    rw [← Nat.add_assoc, sg, sg_more m h, h (n + m) (by omega)]
    omega
theorem sg_front (f : Nat → Int) : ∀ n : Nat, sg f (n + 1) = f 0 + sg (fun j => f (j + 1)) n
  | 0 => by simp [sg]
  | n + 1 => by
    rw [sg, sg_front f n, sg]
    omega
theorem sg_flip (f : Nat → Int) : ∀ n : Nat, sg (fun j => f (n - 1 - j)) n = sg f n
  | 0 => rfl
  | n + 1 => by
    rw [sg_front, sg, ← sg_flip f n]
    have : sg (fun j => f (n + 1 - 1 - (j + 1))) n = sg (fun j => f (n - 1 - j)) n := sg_congr fun j hj => by
      congr 1
      omega
    rw [this]
    simp only [Nat.add_sub_cancel, Nat.sub_zero]
    omega
theorem sum_sg (f : Nat → Int) : ∀ n : Nat, ((List.range n).map f).sum = sg f n
  | 0 => rfl
  | n + 1 => by
    rw [List.range_succ, List.map_append, List.sum_append, sum_sg f n, sg]
    simp
theorem sg_dvd {p : Int} {f g : Nat → Int} : ∀ {n : Nat}, (∀ j, j < n → p ∣ f j - g j) → p ∣ sg f n - sg g n
  | 0, _ => by simp [sg]
  | n + 1, h => by
    have h1 := sg_dvd (n := n) fun j hj => h j (by omega)
    have h2 := h n (by omega)
    rw [sg, sg, show sg f n + f n - (sg g n + g n) = (sg f n - sg g n) + (f n - g n) by omega]
    exact Int.dvd_add h1 h2
/-! ### zeros at the end -/
def tl (xs : List Int) : Nat → Nat
  | 0 => 0
  | n + 1 => if xs.getD n 0 = 0 then tl xs n else n + 1
theorem tl_le (xs : List Int) : ∀ n, tl xs n ≤ n
  | 0 => Nat.le_refl 0
  | n + 1 => by
    have := tl_le xs n
    rw [tl]
    split <;> omega
theorem tl_zero (xs : List Int) : ∀ n i, tl xs n ≤ i → i < n → xs.getD i 0 = 0
  | 0, i, _, h => by omega
  | n + 1, i, h1, h2 => by
    rw [tl] at h1
    split at h1
    · rename_i h
      by_cases e : i = n
      · rw [e]; exact h
      · exact tl_zero xs n i h1 (by omega)
    · omega
theorem tl_last (xs : List Int) : ∀ n, tl xs n = 0 ∨ xs.getD (tl xs n - 1) 0 ≠ 0
  | 0 => .inl rfl
  | n + 1 => by
    rw [tl]
    split
    · exact tl_last xs n
    · rename_i h
      exact .inr h
def trim (xs : List Int) : List Int := xs.take (tl xs xs.length)
theorem getD_big (xs : List Int) (i : Nat) (h : xs.length ≤ i) : xs.getD i 0 = 0 := by
  rw [List.getD_eq_getElem?_getD, List.getElem?_eq_none h]
  rfl
theorem tl_all (xs : List Int) (i : Nat) (h : tl xs xs.length ≤ i) : xs.getD i 0 = 0 := by
  by_cases h2 : i < xs.length
  · exact tl_zero xs _ i h h2
  · exact getD_big xs i (by omega)
theorem trim_length (xs : List Int) : (trim xs).length = tl xs xs.length := by
  have := tl_le xs xs.length
  rw [trim, List.length_take]
  omega
theorem trim_le (xs : List Int) : (trim xs).length ≤ xs.length := by
  rw [trim_length]
  exact tl_le ..
theorem getD_take (xs : List Int) (n i : Nat) : (xs.take n).getD i 0 = if i < n then xs.getD i 0 else 0 := by
  split
  · rename_i h
    rw [List.getD_eq_getElem?_getD, List.getD_eq_getElem?_getD, List.getElem?_take_of_lt h]
  · rename_i h
    exact getD_big _ _ (by rw [List.length_take]; omega)
theorem trim_getD (xs : List Int) (i : Nat) : (trim xs).getD i 0 = xs.getD i 0 := by
  rw [trim, getD_take]
  split
  · rfl
  · rename_i h
    exact (tl_all xs i (by omega)).symm
theorem list_ext {xs ys : List Int} (hl : xs.length = ys.length) (h : ∀ i, i < xs.length → xs.getD i 0 = ys.getD i 0) : xs = ys := by
  apply List.ext_getElem hl
  intro i h1 h2
  have := h i h1
  simpa [h1, h2] using this
theorem trim_ext {xs ys : List Int} (h : ∀ i, xs.getD i 0 = ys.getD i 0) : trim xs = trim ys := by
  have key : ∀ {xs ys : List Int}, (∀ i, xs.getD i 0 = ys.getD i 0) → tl ys ys.length ≤ tl xs xs.length := by
    intro xs ys h
    rcases tl_last ys ys.length with h1 | h1
    · omega
    · apply Nat.le_of_not_lt
      intro h2
      exact h1 (by rw [← h]; exact tl_all xs _ (by omega))
  apply list_ext
  · rw [trim_length, trim_length]
    exact Nat.le_antisymm (key fun i => (h i).symm) (key h)
  · intro i _
    rw [trim_getD, trim_getD, h]
theorem trim_trim (xs : List Int) : trim (trim xs) = trim xs := trim_ext fun i => trim_getD xs i
theorem trim_nums {p : Int} {xs : List Int} (h : nums p xs) : nums p (trim xs) := fun x hx => h x (List.mem_of_mem_take hx)
/-- the last one is not 0 -/
def polyL (xs : List Int) : Prop := xs = [] ∨ xs.getD (xs.length - 1) 0 ≠ 0
theorem trim_poly (xs : List Int) : polyL (trim xs) := by
  rcases tl_last xs xs.length with h | h
  · left
    exact List.length_eq_zero_iff.mp (by rw [trim_length, h])
  · right
    rw [trim_length, trim_getD]
    exact h
theorem trim_of_poly {xs : List Int} (h : polyL xs) : trim xs = xs := by
  rcases h with rfl | h
  · rfl
  · cases e : xs.length with
    | zero => rw [List.length_eq_zero_iff.mp e]; rfl
    | succ n =>
      rw [trim, e, tl, if_neg (by rw [e] at h; exact h), ← e, List.take_length]
/-! ### what == says of rows -/
theorem depthAll_ints : ∀ xs : List Int, PyData.depthAll (xs.map .int) ≤ 1
  | [] => by simp [PyData.depthAll]
  | x :: xs => by
    have := depthAll_ints xs
    simp [PyData.depthAll, PyData.depth] at *
    omega
theorem canLay_ints : ∀ xs : List Int, PyData.canLayAll0 (xs.map .int) = true
  | [] => by simp [PyData.canLayAll0]
  | x :: xs => by simp [PyData.canLayAll0, PyData.canLay0, canLay_ints xs]
@[simp] theorem shaped_row (xs : List Int) : PySem.SeqAt.shaped (.tuple (xs.map .int)) = true := by
  have := depthAll_ints xs
  simp [PySem.SeqAt.shaped, PyData.canLay0, PyData.depth, canLay_ints]
  omega
@[simp] theorem shaped_lst (xs : List Int) : PySem.SeqAt.shaped (.list (xs.map .int)) = true := by
  have := depthAll_ints xs
  simp [PySem.SeqAt.shaped, PyData.canLay0, PyData.depth, canLay_ints]
  omega
theorem eqvAll_ints : ∀ xs ys : List Int, PyData.eqvAll (xs.map .int) (ys.map .int) = decide (xs = ys)
  | [], [] => by simp [PyData.eqvAll]
  | [], y :: ys => by simp [PyData.eqvAll]
  | x :: xs, [] => by simp [PyData.eqvAll]
  | x :: xs, y :: ys => by
    simp [PyData.eqvAll, eqvAll_ints xs ys]
    by_cases h1 : x = y <;> by_cases h2 : xs = ys <;> simp [h1, h2]
@[simp] theorem eqv_row (xs ys : List Int) : PyData.eqv (.tuple (xs.map .int)) (.tuple (ys.map .int)) = decide (xs = ys) := by
  rw [PyData.eqv, eqvAll_ints]
@[simp] theorem eqv_lst (xs ys : List Int) : PyData.eqv (.list (xs.map .int)) (.list (ys.map .int)) = decide (xs = ys) := by
  rw [PyData.eqv, eqvAll_ints]
end IPL
end
section
set_option linter.all false
set_option maxRecDepth 20000
namespace IPL
open IP
open PySem (PyData)
theorem whileGo_go {t : Et} {b : Es} {n : Nat} {δ δ1 δ2 : Env} (h1 : t δ = some (true, δ1)) (h2 : b δ1 = some (.nx, δ2)) : whileGo t b (n + 1) δ = whileGo t b n δ2 := by
  rw [whileGo, h1, Option.bind_some, if_pos rfl, h2, Option.bind_some]
theorem whileGo_end {t : Et} {b : Es} {n : Nat} {δ δ1 : Env} (h1 : t δ = some (false, δ1)) : whileGo t b (n + 1) δ = some (.nx, δ1) := by
  rw [whileGo, h1, Option.bind_some, if_neg (by simp)]
theorem sWhile_at {t : Et} {b : Es} {δ : Env} {r : Out × Env} (h : ∀ m, m = turns → whileGo t b m δ = some r) : sWhile t b δ = some r := by
  rw [sWhile]
  exact h _ rfl
theorem tAnd_t {f g : Et} {δ δ1 δ2 : Env} {b : Bool} (h : f δ = some (true, δ1)) (h2 : g δ1 = some (b, δ2)) : tAnd f g δ = some (b, δ2) := by
  rw [tAnd, h, Option.bind_some]
  exact h2
theorem tAnd_f {f g : Et} {δ δ1 : Env} (h : f δ = some (false, δ1)) : tAnd f g δ = some (false, δ1) := by
  rw [tAnd, h, Option.bind_some]
  rfl
theorem ix2_at {f g : Eo} {δ δ1 δ2 : Env} {xs : List Int} {a : Nat} {d : D} (hd : d = iT xs ∨ d = iL xs) (h1 : f δ = some (.val d, δ1)) (h2 : g δ1 = some (.val (.int a), δ2)) (h : a < xs.length) : fBin bIx f g δ = some (.dat (.int (xs.getD a 0)), δ2) := by
  refine fBin_at h1 h2 ?_
  have f1 : IP.ixN xs.length (a : Int) = some a := ixN_nat h
  obtain ⟨v, f2⟩ : ∃ v, xs[a]? = some v := ⟨xs[a], List.getElem?_eq_getElem h⟩
  have f3 : xs.getD a 0 = v := by simp [f2]
  rw [f3]
  rcases hd with rfl | rfl <;> simp [f1, f2]
theorem eqI_at {f g : Eo} {δ δ1 δ2 : Env} {a b : Int} (h1 : f δ = some (.val (.int a), δ1)) (h2 : g δ1 = some (.val (.int b), δ2)) : fBin bEq f g δ = some (.dat (.bool (a == b)), δ2) := fBin_at h1 h2 (by simp)
theorem gtI_at {f g : Eo} {δ δ1 δ2 : Env} {a b : Int} (h1 : f δ = some (.val (.int a), δ1)) (h2 : g δ1 = some (.val (.int b), δ2)) : fBin bGt f g δ = some (.dat (.bool (decide (b < a))), δ2) := fBin_at h1 h2 rfl
theorem ltI_at {f g : Eo} {δ δ1 δ2 : Env} {a b : Int} (h1 : f δ = some (.val (.int a), δ1)) (h2 : g δ1 = some (.val (.int b), δ2)) : fBin bLt f g δ = some (.dat (.bool (decide (a < b))), δ2) := fBin_at h1 h2 rfl
theorem augI_at {i : Nat} {op : Int → Int → Int} {f : Eo} {δ δ2 : Env} {a b : Int} (h : δ[i]? = some (.dat (.int a))) (h1 : f δ = some (.val (.int b), δ)) (h2 : setSlot δ i (.dat (.int (op a b))) = some δ2) : sAug i op f δ = some (.nx, δ2) := by
  simp only [sAug, h, h1, Option.bind_some, h2, Option.map_some]
abbrev trimT : Et := tAnd (tB (fBin bGt (oVar 1) (oV (vC (.int 0))))) (tB (fBin bEq (oV (fBin bIx (oVar 0) (oV (fBin bSub (oVar 1) (oV (vC (.int 1))))))) (oV (vC (.int 0)))))
abbrev trimB : Es := sAug 1 (fun i j => i - j) (oV (vC (.int 1)))
theorem while_trim {xs : List Int} {d : D} (hd : d = iT xs ∨ d = iL xs) : ∀ (e m : Nat), e ≤ xs.length → e < m → whileGo trimT trimB m [.dat d, .dat (.int e)] = some (.nx, [.dat d, .dat (.int (tl xs e))])
  | _, 0, _, h => by omega
  | 0, m + 1, _, _ => by
    have h1 := tB_at (gtI_at (f := oVar 1) (g := oV (vC (.int 0))) (δ := [.dat d, .dat (.int (0 : Nat))]) (oVar_dat rfl) vC_at)
    exact whileGo_end (tAnd_f h1)
  | e + 1, m + 1, h1, h2 => by
    have g1 := tB_at (gtI_at (f := oVar 1) (g := oV (vC (.int 0))) (δ := [.dat d, .dat (.int (e + 1 : Nat))]) (oVar_dat rfl) vC_at)
    rw [decide_eq_true (show (0 : Int) < (e + 1 : Nat) by omega)] at g1
    have g2 : oV (fBin bSub (oVar 1) (oV (vC (.int 1)))) [.dat d, .dat (.int (e + 1 : Nat))] = some (.val (.int (e : Nat)), [.dat d, .dat (.int (e + 1 : Nat))]) := by
      refine (oV_at (sub_at (oVar_dat (d := .int (e + 1 : Nat)) rfl) vC_at)).trans ?_
      rw [show ((e + 1 : Nat) : Int) - 1 = (e : Nat) by omega]
      rfl
    have g3 := tB_at (eqI_at (oV_at (ix2_at hd (f := oVar 0) (oVar_dat rfl) g2 (by omega))) (vC_at (d := .int 0)))
    by_cases hv : xs.getD e 0 = 0
    · rw [hv] at g3
      have g4 : trimB [.dat d, .dat (.int (e + 1 : Nat))] = some (.nx, [.dat d, .dat (.int (e : Nat))]) := by
        refine (augI_at (a := ((e + 1 : Nat) : Int)) (b := 1) (δ2 := [.dat d, .dat (.int (((e + 1 : Nat) : Int) - 1))]) rfl vC_at rfl).trans ?_
        rw [show ((e + 1 : Nat) : Int) - 1 = (e : Nat) by omega]
      rw [whileGo_go (tAnd_t g1 g3) g4, while_trim hd e m (by omega) (by omega), tl, if_pos hv]
    · have : (xs.getD e 0 == 0) = false := by simp only [beq_eq_false_iff_ne]; exact hv
      rw [this] at g3
      rw [whileGo_end (tAnd_t g1 g3), tl, if_neg hv]
theorem len2_at {δ : Env} {i : Nat} {xs : List Int} {d : D} (hd : d = iT xs ∨ d = iL xs) (h : δ[i]? = some (.dat d)) : vBi biLen (aCons (oVar i) aNil) δ = some (.dat (.int xs.length), δ) := by
  rcases hd with rfl | rfl <;> simp [h]
theorem tup_cut {δ : Env} {i : Nat} {f : Eo} {xs : List Int} {a : Nat} {d : D} (hd : d = iT xs ∨ d = iL xs) (h : δ[i]? = some (.dat d)) (hf : f δ = some (.val (.int a), δ)) : vBi biTuple (aCons (oV (fSl (oVar i) pNo (pSo f))) aNil) δ = some (.dat (iT (xs.take a)), δ) := by
  have e : cutD (xs.map .int) none (some (a : Int)) = (xs.take a).map .int := by
    rw [cutD_ints, show clampIx xs.length 0 none = 0 from rfl, List.drop_zero, Nat.sub_zero]
    have e2 : clampIx xs.length xs.length (some (a : Int)) = min a xs.length := by
      simp only [clampIx]
      rw [if_neg (by omega), Int.toNat_natCast]
    rw [e2]
    by_cases h : a ≤ xs.length
    · rw [Nat.min_eq_left h]
    · rw [Nat.min_eq_right (by omega), List.take_of_length_le (Nat.le_refl _), List.take_of_length_le (by omega)]
  rcases hd with rfl | rfl
  · simp only [vBi, aCons, aNil, oV, fSl, oVar_dat h, pNo, pSo, hf, Option.bind_some, Option.map_some, rd, rdAll, Res.toD, biTuple, e]
  · simp only [vBi, aCons, aNil, oV, fSl, oVar_dat h, pNo, pSo, hf, Option.bind_some, Option.map_some, rd, rdAll, Res.toD, biTuple, e]
theorem I_trimmed (n : Nat) {xs : List Int} {d : D} (hd : d = iT xs ∨ d = iL xs) (hl : xs.length ≤ 100000) : run (n + 1) "trimmed" none [d] = some (.dat (iT (trim xs)), none) := by
  rw [run_trimmed]
  refine fnV (δ := [.dat d, .dat (.int (tl xs xs.length))]) (δ0 := [.dat d, .un]) rfl rfl rfl rfl ?_
  refine (sSeq_nx (sSet_at (len2_at hd rfl) (δ2 := [.dat d, .dat (.int xs.length)]) rfl)).trans ?_
  refine (sSeq_nx (δ1 := [.dat d, .dat (.int (tl xs xs.length))]) (sWhile_at fun m hm => while_trim hd xs.length m (Nat.le_refl _) (by rw [hm]; unfold turns; omega))).trans ?_
  exact sRet_at (tup_cut hd rfl (oVar_dat rfl))
/-! ### the law's own -/
theorem drop_last {xs : List Int} (h : 0 < xs.length) : xs.drop (xs.length - 1) = [xs.getD (xs.length - 1) 0] := by
  apply list_ext
  · rw [List.length_drop]
    show xs.length - (xs.length - 1) = 1
    omega
  · intro i hi
    rw [List.length_drop] at hi
    rw [List.getD_eq_getElem?_getD, List.getElem?_drop, show i = 0 by omega]
    rfl
theorem cut_last (xs : List Int) : cutD (xs.map .int) (some (-1)) none = (xs.drop (xs.length - 1)).map .int := by
  rw [cutD_ints]
  have e1 : clampIx xs.length 0 (some (-1)) = xs.length - 1 := by
    simp only [clampIx]
    rw [if_pos (by decide)]
    omega
  rw [e1, show clampIx xs.length xs.length none = xs.length from rfl, List.take_of_length_le (by rw [List.length_drop]; exact Nat.le_refl _)]
abbrev popT : Et := tB (fBin bEq (oV (fSl (oVar 1) (pSo (oV (fUn uNeg (oV (vC (.int 1)))))) pNo)) (oV (vLst (aCons (oV (vC (.int 0))) aNil))))
theorem popT_at (x : Slot) (s : Slot) (ys : List Int) : popT [x, .own (ys.map .int), s] = some (decide (0 < ys.length ∧ ys.getD (ys.length - 1) 0 = 0), [x, .own (ys.map .int), s]) := by
  have h0 : oV (vLst (aCons (oV (vC (.int 0))) aNil)) [x, .own (ys.map .int), s] = some (.val (.list ([(0 : Int)].map .int)), [x, .own (ys.map .int), s]) := by simp [line]
  have h1 : fSl (oVar 1) (pSo (oV (fUn uNeg (oV (vC (.int 1)))))) pNo [x, .own (ys.map .int), s] = some (.new ((ys.drop (ys.length - 1)).map .int), [x, .own (ys.map .int), s]) := by
    have := cut_last ys
    simp only [fSl, oVar, pNo, pSo, fUn, oV, vC, uNeg, List.getElem?_cons_succ, List.getElem?_cons_zero, Option.bind_some, Option.map_some, rd, Res.toD, slotD, this]
  refine tB_at (fBin_at (oV_at h1) h0 (r := .dat (.bool (decide (0 < ys.length ∧ ys.getD (ys.length - 1) 0 = 0)))) ?_)
  rw [Res.toD, bEq, if_pos ⟨shaped_lst _, shaped_lst _⟩, eqv_lst]
  congr 3
  apply decide_eq_decide.mpr
  by_cases hl : 0 < ys.length
  · rw [drop_last hl]
    constructor
    · intro h
      exact ⟨hl, by simpa using h⟩
    · intro h
      rw [h.2]
  · have : ys = [] := List.length_eq_zero_iff.mp (by omega)
    subst this
    simp
theorem pop_loop {xs : List Int} (x : Slot) : ∀ (L : List Nat) (e : Nat) (s : Slot), e ≤ xs.length → tl xs e = tl xs xs.length → e ≤ tl xs xs.length + L.length → (s = .un ∨ ∃ d, s = .dat d) →
    ∃ s', forGo (.nm 2) (sIf popT (sPop 1) sPass) (L.map fun (k : Nat) => .int (k : Int)) [x, .own ((xs.take e).map .int), s] = some (.nx, [x, .own ((trim xs).map .int), s'])
  | [], e, s, h1, h2, h3, _ => by
    have : e = tl xs xs.length := by
      have := tl_le xs e
      simp at h3
      omega
    exact ⟨s, by rw [this]; rfl⟩
  | k :: L, e, s, h1, h2, h3, hs => by
    have g1 : (Tg.nm 2).put (.int (k : Int)) [x, .own ((xs.take e).map .int), s] = some [x, .own ((xs.take e).map .int), .dat (.int k)] := by
      rcases hs with rfl | ⟨d, rfl⟩ <;> rfl
    have g2 := popT_at x (.dat (.int k)) (xs.take e)
    have hl : (xs.take e).length = e := by rw [List.length_take]; omega
    rw [hl] at g2
    cases e with
    | zero =>
      rw [decide_eq_false (by omega)] at g2
      obtain ⟨s', g3⟩ := pop_loop x L 0 (.dat (.int k)) h1 h2 (by omega) (.inr ⟨_, rfl⟩)
      exact ⟨s', by rw [List.map_cons, forGo_nx g1 (sIf_f g2), g3]⟩
    | succ e =>
      rw [getD_take, if_pos (by omega), Nat.add_sub_cancel] at g2
      rw [tl] at h2
      by_cases hv : xs.getD e 0 = 0
      · rw [if_pos hv] at h2
        rw [decide_eq_true ⟨by omega, hv⟩] at g2
        obtain ⟨s', g3⟩ := pop_loop x L e (.dat (.int k)) (by omega) h2 (by simp at h3; omega) (.inr ⟨_, rfl⟩)
        have g4 : sPop 1 [x, .own ((xs.take (e + 1)).map .int), .dat (.int k)] = some (.nx, [x, .own ((xs.take e).map .int), .dat (.int k)]) := by
          have w : ((xs.take (e + 1)).map PyData.int).dropLast = (xs.take e).map .int := by
            rw [← List.map_dropLast, List.dropLast_eq_take, List.take_take, hl]
            congr 2
            omega
          have w2 : ((xs.take (e + 1)).map PyData.int).isEmpty = false := by
            cases q : (xs.take (e + 1)) with
            | nil => rw [q] at hl; simp at hl
            | cons _ _ => rfl
          simp only [sPop, withOwn, List.getElem?_cons_succ, List.getElem?_cons_zero, w2, w, Bool.false_eq_true, if_false, Option.map_some]
          rfl
        exact ⟨s', by rw [List.map_cons, forGo_nx g1 ((sIf_t g2).trans g4), g3]⟩
      · rw [if_neg hv] at h2
        rw [decide_eq_false (fun h => hv h.2)] at g2
        obtain ⟨s', g3⟩ := pop_loop x L (e + 1) (.dat (.int k)) h1 (by rw [tl, if_neg hv]; exact h2) (by simp at h3; omega) (.inr ⟨_, rfl⟩)
        exact ⟨s', by rw [List.map_cons, forGo_nx g1 (sIf_f g2), g3]⟩
theorem I_law_trim (n : Nat) {xs : List Int} {d : D} (hd : d = iT xs ∨ d = iL xs) (hl : xs.length ≤ 100000) : run (n + 1) "_law_trim" none [d] = some (.dat (iT (trim xs)), none) := by
  obtain ⟨s', e1⟩ := pop_loop (xs := xs) (.dat d) (List.range xs.length) xs.length .un (Nat.le_refl _) rfl (by simp) (.inl rfl)
  rw [List.take_length, show (List.range xs.length).map (fun (k : Nat) => PyData.int (k : Int)) = rangeD 0 ((xs.length : Int)).toNat by simp [rangeD]] at e1
  rw [run__law_trim]
  refine fnV (δ := [.dat d, .own ((trim xs).map .int), s']) (δ0 := [.dat d, .un, .un]) rfl rfl rfl rfl ?_
  have e2 : vBi biList (aCons (oVar 0) aNil) [.dat d, .un, .un] = some (.new (xs.map .int), [.dat d, .un, .un]) := by
    rcases hd with rfl | rfl <;> simp
  have e3 : oV (vBi biLen (aCons (oVar 1) aNil)) [.dat d, .own (xs.map .int), .un] = some (.val (.int xs.length), [.dat d, .own (xs.map .int), .un]) := by simp
  refine (sSeq_nx (sSet_at e2 (δ2 := [.dat d, .own (xs.map .int), .un]) rfl)).trans ?_
  refine (sSeq_nx (sFor_at (iRange1_at e3 (by omega)) e1)).trans ?_
  refine sRet_at ?_
  simp only [vBi, aCons, aNil, oVar, List.getElem?_cons_succ, List.getElem?_cons_zero, Option.bind_some, Option.map_some, rdAll, rd, slotD, biTuple]
end IPL
end
section
set_option linter.all false
set_option maxRecDepth 20000
namespace IPL
open IP
open PySem (PyData)
theorem forRange {g : Tg} {b : Es} (enc : Nat → D) (P : Nat → Env → Prop) (n : Nat) (δ : Env) (h0 : P 0 δ)
    (h : ∀ i, i < n → ∀ δ, P i δ → ∃ δ1 δ2 o, g.put (enc i) δ = some δ1 ∧ b δ1 = some (o, δ2) ∧ (o = .nx ∨ o = .ct) ∧ P (i + 1) δ2) :
    ∃ δ', forGo g b ((List.range n).map enc) δ = some (.nx, δ') ∧ P n δ' := by
  obtain ⟨δ', h1, h2⟩ := forGo_inv (g := g) (b := b) enc P (List.range n) 0 δ h0 (by
    intro i x δ hx hp
    rw [Nat.zero_add] at hp ⊢
    have hi : i < n := by
      rcases Nat.lt_or_ge i n with h | h
      · exact h
      · rw [List.getElem?_eq_none (by simp; exact h)] at hx
        cases hx
    have hxi : x = i := by
      rw [List.getElem?_range hi] at hx
      exact (Option.some.inj hx).symm
    subst hxi
    exact h x hi δ hp)
  refine ⟨δ', h1, ?_⟩
  rw [Nat.zero_add, List.length_range] at h2
  exact h2
/-- the sum of products that a row of products holds behind k turns -/
def ab (a b : List Int) (k i : Nat) : Int := sg (fun j => if j ≤ i then a.getD j 0 * b.getD (i - j) 0 else 0) k
/-- the same within a turn -/
def abIn (a b : List Int) (k t i : Nat) : Int := ab a b k i + (if k ≤ i ∧ i < k + t then a.getD k 0 * b.getD (i - k) 0 else 0)
theorem ab_succ (a b : List Int) (k i : Nat) : ab a b (k + 1) i = ab a b k i + (if k ≤ i then a.getD k 0 * b.getD (i - k) 0 else 0) := rfl
theorem abIn_zero (a b : List Int) (k i : Nat) : abIn a b k 0 i = ab a b k i := by
  unfold abIn
  rw [if_neg (by omega)]
  omega
theorem abIn_all (a b : List Int) (k i : Nat) : abIn a b k b.length i = ab a b (k + 1) i := by
  unfold abIn
  rw [ab_succ]
  by_cases h : k ≤ i
  · by_cases h2 : i < k + b.length
    · rw [if_pos ⟨h, h2⟩, if_pos h]
    · rw [if_neg (by omega), if_pos h, getD_big b _ (by omega), Int.mul_zero]
  · rw [if_neg (by omega), if_neg h]
theorem abIn_here (a b : List Int) (k t : Nat) : abIn a b k t (k + t) = ab a b k (k + t) := by
  unfold abIn
  rw [if_neg (by omega)]
  omega
theorem abIn_next (a b : List Int) (k t : Nat) : abIn a b k (t + 1) (k + t) = ab a b k (k + t) + a.getD k 0 * b.getD t 0 := by
  unfold abIn
  rw [if_pos ⟨by omega, by omega⟩, show k + t - k = t by omega]
theorem abIn_other (a b : List Int) (k t i : Nat) (h : i ≠ k + t) : abIn a b k (t + 1) i = abIn a b k t i := by
  unfold abIn
  by_cases h2 : k ≤ i ∧ i < k + t
  · rw [if_pos h2, if_pos ⟨h2.1, by omega⟩]
  · rw [if_neg h2, if_neg (by omega)]
theorem getD_set (r : List Int) (j i : Nat) (v : Int) (hj : j < r.length) : (r.set j v).getD i 0 = if i = j then v else r.getD i 0 := by
  by_cases h : i = j
  · subst h
    rw [if_pos rfl]
    simp [hj]
  · rw [if_neg h, List.getD_eq_getElem?_getD, List.getD_eq_getElem?_getD, List.getElem?_set_ne (fun e => h e.symm)]
theorem flat_zeros : ∀ m : Nat, (List.replicate m [PyData.int 0]).flatten = (List.replicate m (0 : Int)).map PyData.int
  | 0 => rfl
  | m + 1 => by
    rw [List.replicate_succ, List.replicate_succ, List.flatten_cons, flat_zeros m]
    rfl
theorem noList_ints : ∀ xs : List Int, noListAll (xs.map .int) = true
  | [] => rfl
  | x :: xs => by simp [noList_ints xs]
theorem vCallO_at {c : Fnc} {f : Ea} {δ δ1 : Env} {os : List Opd} {ds : List D} {xs : List Int} (h1 : f δ = some (os, δ1)) (h2 : rdAll δ1 os = some ds) (h0 : anyAt os = true) (h3 : c none ds = some (.dat (iT xs), none)) : vCall c f δ = some (.dat (iT xs), δ1) := by
  have h4 : noList (iT xs) = true := noList_ints xs
  simp only [vCall, h1, Option.bind_some, h2, h3, h0, h4, if_true]
  rfl
theorem zeros_at {f g : Eo} {δ δ1 δ2 : Env} {m : Nat} (h1 : f δ = some (.val (.list [.int 0]), δ1)) (h2 : g δ1 = some (.val (.int m), δ2)) (hm : m ≤ 100000) : fBin bMul f g δ = some (.new ((List.replicate m (0 : Int)).map .int), δ2) := by
  refine fBin_at h1 h2 ?_
  have c : -(2 ^ 63) ≤ (m : Int) ∧ (m : Int) < 2 ^ 63 ∧ [PyData.int 0].length * (m : Int).toNat ≤ line := ⟨by omega, by omega, by simp [line]; omega⟩
  have e : ((List.replicate (m : Int).toNat [PyData.int 0]).flatten) = (List.replicate m (0 : Int)).map PyData.int := by
    rw [Int.toNat_natCast, flat_zeros]
  simp only [bMul]
  rw [if_pos c, e]
theorem mul_at {f g : Eo} {δ δ1 δ2 : Env} {a b : Int} (h1 : f δ = some (.val (.int a), δ1)) (h2 : g δ1 = some (.val (.int b), δ2)) (ha : -1000 ≤ a ∧ a ≤ 1000) : fBin bMul f g δ = some (.dat (.int (a * b)), δ2) := by
  refine fBin_at h1 h2 ?_
  simp only [bMul]
  rw [if_pos (.inl (.inl ⟨by omega, by omega⟩))]
theorem oVar_own {δ : Env} {i : Nat} {xs : List D} (h : δ[i]? = some (.own xs)) : oVar i δ = some (.at i, δ) := by
  simp only [oVar, h]
theorem ixO_at {g : Eo} {δ δ1 : Env} {i : Nat} {xs : List Int} {a : Nat} (h0 : δ[i]? = some (.own (xs.map .int))) (h2 : g δ = some (.val (.int a), δ1)) (h3 : δ1[i]? = some (.own (xs.map .int))) (h : a < xs.length) : fBin bIx (oVar i) g δ = some (.dat (.int (xs.getD a 0)), δ1) := by
  have f1 : IP.ixN xs.length (a : Int) = some a := ixN_nat h
  obtain ⟨v, f2⟩ : ∃ v, xs[a]? = some v := ⟨xs[a], List.getElem?_eq_getElem h⟩
  have f3 : xs.getD a 0 = v := by simp [f2]
  have f4 : bIx (iL xs) (.int a) = some (.dat (.int v)) := by simp [f1, f2]
  rw [f3]
  simp only [fBin, oVar_own h0, h2, Option.bind_some, rd, h3, slotD]
  exact congrArg (Option.map fun r => (r, δ1)) f4
theorem setIx_at {f g : Eo} {δ δ1 δ2 : Env} {i : Nat} {xs : List Int} {a : Nat} {v : Int} (h1 : f δ = some (.val (.int v), δ1)) (h0 : ownAt δ1 i = true) (h2 : g δ1 = some (.val (.int a), δ2)) (h3 : δ2[i]? = some (.own (xs.map .int))) (h : a < xs.length) : sSetIx i g f δ = some (.nx, δ2.set i (.own ((xs.set a v).map .int))) := by
  have f1 : IP.ixN (xs.map PyData.int).length (a : Int) = some a := by rw [List.length_map]; exact ixN_nat h
  simp only [sSetIx, h1, Option.bind_some, h0, if_true, h2, withOwn, h3, f1, Option.map_some, List.map_set]
/-! ### the law's products -/
abbrev ltB : Es := sSetIx 3 (oV (fBin bAdd (oVar 4) (oVar 5))) (oV (fBin bMod (oV (vBi biInt (aCons (oV (fBin bAdd (oV (fBin bIx (oVar 3) (oV (fBin bAdd (oVar 4) (oVar 5))))) (oV (fBin bMul (oV (fBin bIx (oVar 1) (oVar 4))) (oV (fBin bIx (oVar 2) (oVar 5))))))) aNil))) (oVar 0)))
theorem lt_turn {p : Int} (h0 : 0 < p) {a b r : List Int} {k t : Nat} (hk : k < a.length) (ht : t < b.length) (hb : ∀ i, -1000 ≤ a.getD i 0 ∧ a.getD i 0 ≤ 1000) (hr : a.length + b.length ≤ r.length + 1) :
    ltB [.dat (.int p), .dat (iT a), .dat (iT b), .own (r.map .int), .dat (.int k), .dat (.int t)] = some (.nx, [.dat (.int p), .dat (iT a), .dat (iT b), .own ((r.set (k + t) ((r.getD (k + t) 0 + a.getD k 0 * b.getD t 0) % p)).map .int), .dat (.int k), .dat (.int t)]) := by
  have g0 : oV (fBin bAdd (oVar 4) (oVar 5)) [.dat (.int p), .dat (iT a), .dat (iT b), .own (r.map .int), .dat (.int k), .dat (.int t)] = some (.val (.int ((k + t : Nat) : Int)), [.dat (.int p), .dat (iT a), .dat (iT b), .own (r.map .int), .dat (.int k), .dat (.int t)]) := by
    refine (oV_at (add_at (oVar_dat (d := .int k) rfl) (oVar_dat (d := .int t) rfl))).trans ?_
    rw [show ((k + t : Nat) : Int) = (k : Int) + (t : Int) by omega]
    rfl
  have g1 := ixO_at (i := 3) (xs := r) rfl g0 rfl (by omega)
  have g2 := mul_at (oV_at (ix_at (f := oVar 1) (g := oVar 4) (xs := a) (a := k) (δ := [.dat (.int p), .dat (iT a), .dat (iT b), .own (r.map .int), .dat (.int k), .dat (.int t)]) (oVar_dat rfl) (oVar_dat rfl) hk)) (oV_at (ix_at (f := oVar 2) (g := oVar 5) (xs := b) (a := t) (oVar_dat rfl) (oVar_dat rfl) ht)) (hb k)
  have g3 := mod_at (oV_at (int_at (add_at (oV_at g1) (oV_at g2)))) (oVar_dat (i := 0) (d := .int p) rfl) h0
  exact setIx_at (oV_at g3) rfl g0 rfl (by omega)
theorem lt_inner {p : Int} (h0 : 0 < p) {a b : List Int} {k : Nat} (hk : k < a.length) (hb : ∀ i, -1000 ≤ a.getD i 0 ∧ a.getD i 0 ≤ 1000) (hbl : b.length ≤ 1000) {r : List Int} (hr : r.length = a.length + b.length) (hg : ∀ i, r.getD i 0 = ab a b k i % p) (s : Slot) (hs : s = .un ∨ ∃ d, s = .dat d) :
    ∃ (r' : List Int) (s' : Slot), sFor (iRange1 (oV (vBi biLen (aCons (oVar 2) aNil)))) (.nm 5) ltB [.dat (.int p), .dat (iT a), .dat (iT b), .own (r.map .int), .dat (.int k), s] = some (.nx, [.dat (.int p), .dat (iT a), .dat (iT b), .own (r'.map .int), .dat (.int k), s']) ∧ r'.length = a.length + b.length ∧ (∀ i, r'.getD i 0 = ab a b (k + 1) i % p) ∧ (s' = .un ∨ ∃ d, s' = .dat d) := by
  obtain ⟨δ', e1, r', s', rfl, hl, hg', hs'⟩ := forRange (g := .nm 5) (b := ltB) (fun (t : Nat) => .int (0 + (t : Int)))
    (fun t δ => ∃ (r : List Int) (s : Slot), δ = [.dat (.int p), .dat (iT a), .dat (iT b), .own (r.map .int), .dat (.int k), s] ∧ r.length = a.length + b.length ∧ (∀ i, r.getD i 0 = abIn a b k t i % p) ∧ (s = .un ∨ ∃ d, s = .dat d)) b.length
    [.dat (.int p), .dat (iT a), .dat (iT b), .own (r.map .int), .dat (.int k), s] ⟨r, s, rfl, hr, fun i => by rw [hg, abIn_zero], hs⟩ (by
      rintro t ht δ ⟨r, s, rfl, hr, hg, hs⟩
      refine ⟨[.dat (.int p), .dat (iT a), .dat (iT b), .own (r.map .int), .dat (.int k), .dat (.int t)], _, _, ?_, lt_turn h0 hk ht hb (by omega), .inl rfl, _, _, rfl, ?_, ?_, .inr ⟨_, rfl⟩⟩
      · rw [Int.zero_add]
        rcases hs with rfl | ⟨d, rfl⟩ <;> rfl
      · rw [List.length_set, hr]
      · intro i
        rw [getD_set _ _ _ _ (by omega)]
        by_cases h : i = k + t
        · rw [if_pos h, h, abIn_next, hg, abIn_here, Int.add_emod, Int.emod_emod, ← Int.add_emod]
        · rw [if_neg h, hg, abIn_other _ _ _ _ _ h])
  have e0 : iRange1 (oV (vBi biLen (aCons (oVar 2) aNil))) [.dat (.int p), .dat (iT a), .dat (iT b), .own (r.map .int), .dat (.int k), s] = _ := iRange1_at (len_at (i := 2) (xs := b) rfl) (by omega)
  refine ⟨r', s', sFor_at e0 ?_, hl, fun i => by rw [hg', abIn_all], hs'⟩
  rw [Int.toNat_natCast, rangeD_eq]
  exact e1
/-- a product, its zeros at the end cut -/
def mul (p : Int) (a b : List Int) : List Int := trim ((List.range (a.length + b.length)).map fun i => ab a b a.length i % p)
theorem mul_of {p : Int} {a b r : List Int} (h : ∀ i, r.getD i 0 = ab a b a.length i % p) : trim r = mul p a b := by
  apply trim_ext
  intro i
  rw [h]
  by_cases hi : i < a.length + b.length
  · simp [hi]
  · rw [getD_big _ i (by simp; omega)]
    unfold ab
    rw [sg_zero]
    · rfl
    · intro j hj
      by_cases hji : j ≤ i
      · rw [if_pos hji, getD_big b _ (by omega), Int.mul_zero]
      · rw [if_neg hji]
theorem getD_zeros (m i : Nat) : (List.replicate m (0 : Int)).getD i 0 = 0 := by
  by_cases h : i < m
  · simp [h]
  · exact getD_big _ _ (by simp; omega)
theorem I_law_times (n : Nat) {p : Int} (h0 : 0 < p) {a b : List Int} (hb : ∀ i, -1000 ≤ a.getD i 0 ∧ a.getD i 0 ≤ 1000) (hal : a.length ≤ 1000) (hbl : b.length ≤ 1000) : run (n + 2) "_law_times" none [.int p, iT a, iT b] = some (.dat (iT (mul p a b)), none) := by
  rw [run__law_times]
  have e1 := zeros_at (f := oV (vLst (aCons (oV (vC (.int 0))) aNil))) (g := oV (fBin bAdd (oV (vBi biLen (aCons (oVar 1) aNil))) (oV (vBi biLen (aCons (oVar 2) aNil))))) (δ := [.dat (.int p), .dat (iT a), .dat (iT b), .un, .un, .un]) (δ1 := [.dat (.int p), .dat (iT a), .dat (iT b), .un, .un, .un]) (δ2 := [.dat (.int p), .dat (iT a), .dat (iT b), .un, .un, .un]) (m := a.length + b.length) (by simp [line]) (by
    refine (oV_at (add_at (len_at (i := 1) (xs := a) rfl) (len_at (i := 2) (xs := b) rfl))).trans ?_
    rw [show ((a.length + b.length : Nat) : Int) = (a.length : Int) + (b.length : Int) by omega]
    rfl) (by omega)
  obtain ⟨δ', e2, r', s4, s5, rfl, hl, hg', hs4, hs5⟩ := forRange (g := .nm 4) (b := sFor (iRange1 (oV (vBi biLen (aCons (oVar 2) aNil)))) (.nm 5) ltB) (fun (t : Nat) => .int (0 + (t : Int)))
    (fun k δ => ∃ (r : List Int) (s4 s5 : Slot), δ = [.dat (.int p), .dat (iT a), .dat (iT b), .own (r.map .int), s4, s5] ∧ r.length = a.length + b.length ∧ (∀ i, r.getD i 0 = ab a b k i % p) ∧ (s4 = .un ∨ ∃ d, s4 = .dat d) ∧ (s5 = .un ∨ ∃ d, s5 = .dat d)) a.length
    [.dat (.int p), .dat (iT a), .dat (iT b), .own ((List.replicate (a.length + b.length) (0 : Int)).map .int), .un, .un] ⟨_, _, _, rfl, by simp, fun i => by rw [getD_zeros]; rfl, .inl rfl, .inl rfl⟩ (by
      rintro k hk δ ⟨r, s4, s5, rfl, hr, hg, hs4, hs5⟩
      obtain ⟨r', s', e3, hl', hg', hs'⟩ := lt_inner h0 hk hb hbl hr hg s5 hs5
      refine ⟨[.dat (.int p), .dat (iT a), .dat (iT b), .own (r.map .int), .dat (.int k), s5], _, _, ?_, e3, .inl rfl, _, _, _, rfl, hl', hg', .inr ⟨_, rfl⟩, hs'⟩
      rw [Int.zero_add]
      rcases hs4 with rfl | ⟨d, rfl⟩ <;> rfl)
  have e0 : iRange1 (oV (vBi biLen (aCons (oVar 1) aNil))) [.dat (.int p), .dat (iT a), .dat (iT b), .own ((List.replicate (a.length + b.length) (0 : Int)).map .int), .un, .un] = _ := iRange1_at (len_at (i := 1) (xs := a) rfl) (by omega)
  rw [Int.toNat_natCast, rangeD_eq] at e0
  refine fnV (δ := [.dat (.int p), .dat (iT a), .dat (iT b), .own (r'.map .int), s4, s5]) (δ0 := [.dat (.int p), .dat (iT a), .dat (iT b), .un, .un, .un]) rfl rfl rfl rfl ?_
  refine (sSeq_nx (sSet_at e1 (δ2 := [.dat (.int p), .dat (iT a), .dat (iT b), .own ((List.replicate (a.length + b.length) (0 : Int)).map .int), .un, .un]) rfl)).trans ?_
  refine (sSeq_nx (sFor_at e0 e2)).trans ?_
  have e5 := I_law_trim n (d := iL r') (.inr rfl) (by omega)
  rw [mul_of hg'] at e5
  refine sRet_at ?_
  exact vCallO_at (aCons_at (oVar_own (i := 3) rfl) aNil_at) rfl rfl e5
end IPL
end
section
set_option linter.all false
set_option maxRecDepth 20000
namespace IPL
open IP
open PySem (PyData)
theorem augIx_at {f g : Eo} {δ δ1 δ2 : Env} {i : Nat} {op : Int → Int → Int} {xs : List Int} {a : Nat} {v : Int} (h0 : ownAt δ i = true) (h1 : g δ = some (.val (.int a), δ1)) (h2 : δ1[i]? = some (.own (xs.map .int))) (h3 : f δ1 = some (.val (.int v), δ2)) (h4 : δ2[i]? = some (.own (xs.map .int))) (h : a < xs.length) : sAugIx i g op f δ = some (.nx, δ2.set i (.own ((xs.set a (op (xs.getD a 0) v)).map .int))) := by
  have f1 : IP.ixN (xs.map PyData.int).length (a : Int) = some a := by rw [List.length_map]; exact ixN_nat h
  have f2 : atD (xs.map PyData.int) (a : Int) = some (.int (xs.getD a 0)) := by
    unfold atD
    rw [f1]
    simp [h]
  simp only [sAugIx, h0, if_true, h1, Option.bind_some, ownGet, h2, f2, h3, withOwn, h4, f1, Option.map_some, List.map_set]
theorem forGo_ct {g : Tg} {b : Es} {x : D} {xs : List D} {δ δ1 δ2 : Env} (h1 : g.put x δ = some δ1) (h2 : b δ1 = some (.ct, δ2)) : forGo g b (x :: xs) δ = forGo g b xs δ2 := by
  rw [forGo, h1, Option.bind_some, h2, Option.bind_some]
abbrev prI : Es := sAugIx 3 (oV (fBin bAdd (oVar 4) (oVar 6))) (fun i j => i + j) (oV (fBin bMul (oVar 5) (oVar 7)))
theorem pr_turn {p : Slot} {a b r : List Int} {k t : Nat} {x : Slot} (hb : ∀ i, -1000 ≤ a.getD i 0 ∧ a.getD i 0 ≤ 1000) (hr : k + t < r.length) :
    prI [p, .dat (iT a), .dat (iT b), .own (r.map .int), .dat (.int k), .dat (.int (a.getD k 0)), .dat (.int t), .dat (.int (b.getD t 0)), x] = some (.nx, [p, .dat (iT a), .dat (iT b), .own ((r.set (k + t) (r.getD (k + t) 0 + a.getD k 0 * b.getD t 0)).map .int), .dat (.int k), .dat (.int (a.getD k 0)), .dat (.int t), .dat (.int (b.getD t 0)), x]) := by
  have g0 : oV (fBin bAdd (oVar 4) (oVar 6)) [p, .dat (iT a), .dat (iT b), .own (r.map .int), .dat (.int k), .dat (.int (a.getD k 0)), .dat (.int t), .dat (.int (b.getD t 0)), x] = some (.val (.int ((k + t : Nat) : Int)), [p, .dat (iT a), .dat (iT b), .own (r.map .int), .dat (.int k), .dat (.int (a.getD k 0)), .dat (.int t), .dat (.int (b.getD t 0)), x]) := by
    refine (oV_at (add_at (oVar_dat (d := .int k) rfl) (oVar_dat (d := .int t) rfl))).trans ?_
    rw [show ((k + t : Nat) : Int) = (k : Int) + (t : Int) by omega]
    rfl
  have g2 := mul_at (f := oVar 5) (g := oVar 7) (δ := [p, .dat (iT a), .dat (iT b), .own (r.map .int), .dat (.int k), .dat (.int (a.getD k 0)), .dat (.int t), .dat (.int (b.getD t 0)), x]) (oVar_dat rfl) (oVar_dat rfl) (hb k)
  exact augIx_at rfl g0 rfl (oV_at g2) rfl hr
theorem enum_items (xs : List Int) : enumD 0 (xs.map .int) = (List.range xs.length).map fun (i : Nat) => .tuple [.int (i : Int), .int (xs.getD i 0)] := by
  rw [enumD_eq, List.length_map]
  apply List.map_congr_left
  intro i hi
  have := List.mem_range.mp hi
  simp [this]
theorem iEnum_at {δ : Env} {i : Nat} {xs : List Int} (h : δ[i]? = some (.dat (iT xs))) : iEnum (oV (vVar i)) δ = some ((enumD 0 (xs.map .int), none), δ) := by
  simp only [iEnum, oV, vVar, h, Option.map_some, Option.bind_some, Res.toD]
def slotOk (s : Slot) : Prop := s = .un ∨ ∃ d, s = .dat d
theorem pr_inner {p : Slot} {a b : List Int} {k : Nat} (hk : k < a.length) (hb : ∀ i, -1000 ≤ a.getD i 0 ∧ a.getD i 0 ≤ 1000) {r : List Int} (hr : r.length + 1 = a.length + b.length) (hg : ∀ i, r.getD i 0 = ab a b k i) {s6 s7 x : Slot} (h6 : slotOk s6) (h7 : slotOk s7) :
    ∃ (r' : List Int) (s6' s7' : Slot), sFor (iEnum (oV (vVar 2))) (.tup [6, 7]) prI [p, .dat (iT a), .dat (iT b), .own (r.map .int), .dat (.int k), .dat (.int (a.getD k 0)), s6, s7, x] = some (.nx, [p, .dat (iT a), .dat (iT b), .own (r'.map .int), .dat (.int k), .dat (.int (a.getD k 0)), s6', s7', x]) ∧ r'.length + 1 = a.length + b.length ∧ (∀ i, r'.getD i 0 = ab a b (k + 1) i) ∧ slotOk s6' ∧ slotOk s7' := by
  obtain ⟨δ', e1, r', s6', s7', rfl, hl, hg', h6', h7'⟩ := forRange (g := .tup [6, 7]) (b := prI) (fun (i : Nat) => .tuple [.int (i : Int), .int (b.getD i 0)])
    (fun t δ => ∃ (r : List Int) (s6 s7 : Slot), δ = [p, .dat (iT a), .dat (iT b), .own (r.map .int), .dat (.int k), .dat (.int (a.getD k 0)), s6, s7, x] ∧ r.length + 1 = a.length + b.length ∧ (∀ i, r.getD i 0 = abIn a b k t i) ∧ slotOk s6 ∧ slotOk s7) b.length
    [p, .dat (iT a), .dat (iT b), .own (r.map .int), .dat (.int k), .dat (.int (a.getD k 0)), s6, s7, x] ⟨r, s6, s7, rfl, hr, fun i => by rw [hg, abIn_zero], h6, h7⟩ (by
      rintro t ht δ ⟨r, s6, s7, rfl, hr, hg, h6, h7⟩
      refine ⟨[p, .dat (iT a), .dat (iT b), .own (r.map .int), .dat (.int k), .dat (.int (a.getD k 0)), .dat (.int t), .dat (.int (b.getD t 0)), x], _, _, ?_, pr_turn hb (by omega), .inl rfl, _, _, _, rfl, ?_, ?_, .inr ⟨_, rfl⟩, .inr ⟨_, rfl⟩⟩
      · rcases h6 with rfl | ⟨d, rfl⟩ <;> rcases h7 with rfl | ⟨d, rfl⟩ <;> rfl
      · rw [List.length_set, hr]
      · intro i
        rw [getD_set _ _ _ _ (by omega)]
        by_cases h : i = k + t
        · rw [if_pos h, h, abIn_next, hg, abIn_here]
        · rw [if_neg h, hg, abIn_other _ _ _ _ _ h])
  refine ⟨r', s6', s7', sFor_at (iEnum_at rfl) ?_, hl, fun i => by rw [hg', abIn_all], h6', h7'⟩
  rw [enum_items]
  exact e1
abbrev prO : Es := sSeq (sIf (tB (fBin bEq (oVar 5) (oV (vC (.int 0))))) sCont sPass) (sFor (iEnum (oV (vVar 2))) (.tup [6, 7]) prI)
theorem pr_outer {p : Slot} {a b : List Int} {k : Nat} (hk : k < a.length) (hb : ∀ i, -1000 ≤ a.getD i 0 ∧ a.getD i 0 ≤ 1000) {r : List Int} (hr : r.length + 1 = a.length + b.length) (hg : ∀ i, r.getD i 0 = ab a b k i) {s6 s7 x : Slot} (h6 : slotOk s6) (h7 : slotOk s7) :
    ∃ (r' : List Int) (s6' s7' : Slot) (o : Out), prO [p, .dat (iT a), .dat (iT b), .own (r.map .int), .dat (.int k), .dat (.int (a.getD k 0)), s6, s7, x] = some (o, [p, .dat (iT a), .dat (iT b), .own (r'.map .int), .dat (.int k), .dat (.int (a.getD k 0)), s6', s7', x]) ∧ (o = .nx ∨ o = .ct) ∧ r'.length + 1 = a.length + b.length ∧ (∀ i, r'.getD i 0 = ab a b (k + 1) i) ∧ slotOk s6' ∧ slotOk s7' := by
  have g1 := tB_at (eqI_at (f := oVar 5) (g := oV (vC (.int 0))) (a := a.getD k 0) (b := 0) (δ := [p, .dat (iT a), .dat (iT b), .own (r.map .int), .dat (.int k), .dat (.int (a.getD k 0)), s6, s7, x]) (oVar_dat rfl) vC_at)
  by_cases hz : a.getD k 0 = 0
  · have : (a.getD k 0 == 0) = true := by simp only [beq_iff_eq]; exact hz
    rw [this] at g1
    refine ⟨r, s6, s7, .ct, ?_, .inr rfl, hr, fun i => ?_, h6, h7⟩
    · have g2 := (sIf_t (a := sCont) (b := sPass) g1)
      simp only [prO, sSeq, g2, sCont, Option.bind_some]
    · rw [hg, ab_succ, hz]
      split <;> omega
  · have : (a.getD k 0 == 0) = false := by simp only [beq_eq_false_iff_ne]; exact hz
    rw [this] at g1
    obtain ⟨r', s6', s7', g2, g3, g4, g5, g6⟩ := pr_inner (p := p) hk hb hr hg h6 h7 (x := x)
    exact ⟨r', s6', s7', .nx, (sSeq_nx (sIf_f g1)).trans g2, .inl rfl, g3, g4, g5, g6⟩
theorem I_product_of (n : Nat) {p : Int} (h0 : 0 < p) {a b : List Int} (hb : ∀ i, -1000 ≤ a.getD i 0 ∧ a.getD i 0 ≤ 1000) (hal : a.length ≤ 1000) (hbl : b.length ≤ 1000) : run (n + 2) "product_of" none [.int p, iT a, iT b] = some (.dat (iT (mul p a b)), none) := by
  rw [run_product_of]
  by_cases hab : a.length = 0 ∨ b.length = 0
  · have hm : mul p a b = [] := by
      have h : mul p a b = trim [] := by
        refine (mul_of (r := []) fun i => ?_).symm
        have : ab a b a.length i = 0 := by
          unfold ab
          refine sg_zero fun j hj => ?_
          have : a.getD j 0 * b.getD (i - j) 0 = 0 := by
            rcases hab with h | h
            · omega
            · rw [getD_big b _ (by omega), Int.mul_zero]
          rw [this]
          split <;> rfl
        rw [this]
        rfl
      rw [h]
      rfl
    refine fnV (δ := [.dat (.int p), .dat (iT a), .dat (iT b), .un, .un, .un, .un, .un, .un]) (δ0 := [.dat (.int p), .dat (iT a), .dat (iT b), .un, .un, .un, .un, .un, .un]) rfl rfl rfl rfl ?_
    have t1 : tOr (tNot (tV (oVar 1))) (tNot (tV (oVar 2))) [.dat (.int p), .dat (iT a), .dat (iT b), .un, .un, .un, .un, .un, .un] = some (true, [.dat (.int p), .dat (iT a), .dat (iT b), .un, .un, .un, .un, .un, .un]) := by
      rcases hab with h | h
      · rw [List.length_eq_zero_iff.mp h]
        rfl
      · rw [List.length_eq_zero_iff.mp h]
        cases a <;> rfl
    refine sSeq_rt ?_
    rw [sIf_t t1, hm]
    simp [line]
  · have hm : 0 < a.length ∧ 0 < b.length := by omega
    have t1 : tOr (tNot (tV (oVar 1))) (tNot (tV (oVar 2))) [.dat (.int p), .dat (iT a), .dat (iT b), .un, .un, .un, .un, .un, .un] = some (false, [.dat (.int p), .dat (iT a), .dat (iT b), .un, .un, .un, .un, .un, .un]) := by
      obtain ⟨x, a', rfl⟩ : ∃ x a', a = x :: a' := by cases a with | nil => simp at hm | cons x a' => exact ⟨x, a', rfl⟩
      obtain ⟨y, b', rfl⟩ : ∃ x a', b = x :: a' := by cases b with | nil => simp at hm | cons x a' => exact ⟨x, a', rfl⟩
      rfl
    have e1 := zeros_at (f := oV (vLst (aCons (oV (vC (.int 0))) aNil))) (g := oV (fBin bSub (oV (fBin bAdd (oV (vBi biLen (aCons (oVar 1) aNil))) (oV (vBi biLen (aCons (oVar 2) aNil))))) (oV (vC (.int 1))))) (δ := [.dat (.int p), .dat (iT a), .dat (iT b), .un, .un, .un, .un, .un, .un]) (δ1 := [.dat (.int p), .dat (iT a), .dat (iT b), .un, .un, .un, .un, .un, .un]) (δ2 := [.dat (.int p), .dat (iT a), .dat (iT b), .un, .un, .un, .un, .un, .un]) (m := a.length + b.length - 1) (by simp [line]) (by
      refine (oV_at (sub_at (oV_at (add_at (len_at (i := 1) (xs := a) rfl) (len_at (i := 2) (xs := b) rfl))) (vC_at (d := .int 1)))).trans ?_
      rw [show ((a.length + b.length - 1 : Nat) : Int) = (a.length : Int) + (b.length : Int) - 1 by omega]
      rfl) (by omega)
    obtain ⟨δ', e2, r', s4, s5, s6, s7, rfl, hl, hg', hs4, hs5, hs6, hs7⟩ := forRange (g := .tup [4, 5]) (b := prO) (fun (i : Nat) => .tuple [.int (i : Int), .int (a.getD i 0)])
      (fun k δ => ∃ (r : List Int) (s4 s5 s6 s7 : Slot), δ = [.dat (.int p), .dat (iT a), .dat (iT b), .own (r.map .int), s4, s5, s6, s7, .un] ∧ r.length + 1 = a.length + b.length ∧ (∀ i, r.getD i 0 = ab a b k i) ∧ slotOk s4 ∧ slotOk s5 ∧ slotOk s6 ∧ slotOk s7) a.length
      [.dat (.int p), .dat (iT a), .dat (iT b), .own ((List.replicate (a.length + b.length - 1) (0 : Int)).map .int), .un, .un, .un, .un, .un] ⟨_, _, _, _, _, rfl, by simp; omega, fun i => by rw [getD_zeros]; rfl, .inl rfl, .inl rfl, .inl rfl, .inl rfl⟩ (by
        rintro k hk δ ⟨r, s4, s5, s6, s7, rfl, hr, hg, hs4, hs5, hs6, hs7⟩
        obtain ⟨r', s6', s7', o, e3, ho, hl', hg', hs6', hs7'⟩ := pr_outer (p := .dat (.int p)) hk hb hr hg hs6 hs7 (x := .un)
        refine ⟨[.dat (.int p), .dat (iT a), .dat (iT b), .own (r.map .int), .dat (.int k), .dat (.int (a.getD k 0)), s6, s7, .un], _, o, ?_, e3, ho, _, _, _, _, _, rfl, hl', hg', .inr ⟨_, rfl⟩, .inr ⟨_, rfl⟩, hs6', hs7'⟩
        rcases hs4 with rfl | ⟨d, rfl⟩ <;> rcases hs5 with rfl | ⟨d, rfl⟩ <;> rfl)
    rw [← enum_items] at e2
    -- the numbers modulo the prime
    have e4 : lcGo [8] (.nm 8) tYes (fBin bMod (oVar 8) (oVar 0)) (r'.map .int) (some 3) (r'.map .int) [.dat (.int p), .dat (iT a), .dat (iT b), .own (r'.map .int), s4, s5, s6, s7, .un] = some ((r'.map fun x => x % p).map .int, [.dat (.int p), .dat (iT a), .dat (iT b), .own (r'.map .int), s4, s5, s6, s7, .un]) := by
      have hst : still [.dat (.int p), .dat (iT a), .dat (iT b), .own (r'.map .int), s4, s5, s6, s7, .un] (r'.map .int) (some 3) = true := same_ints r'
      have := lcGo_map (vs := [8]) (g := .nm 8) (t := tYes) (e := fBin bMod (oVar 8) (oVar 0)) (src := r'.map .int) (ow := some 3) (δ := [.dat (.int p), .dat (iT a), .dat (iT b), .own (r'.map .int), s4, s5, s6, s7, .un]) PyData.int (fun x => .int (x % p)) hst r' (by
        intro x hx
        have w := mod_at (f := oVar 8) (g := oVar 0) (δ := [.dat (.int p), .dat (iT a), .dat (iT b), .own (r'.map .int), s4, s5, s6, s7, .dat (.int x)]) (oVar_dat (d := .int x) rfl) (oVar_dat (d := .int p) rfl) h0
        unfold lcTurn
        have w0 : (Tg.nm 8).put (.int x) [.dat (.int p), .dat (iT a), .dat (iT b), .own (r'.map .int), s4, s5, s6, s7, .un] = some [.dat (.int p), .dat (iT a), .dat (iT b), .own (r'.map .int), s4, s5, s6, s7, .dat (.int x)] := rfl
        rw [w0, Option.bind_some, tYes, Option.bind_some, if_pos rfl, w]
        rfl)
      rw [this, List.map_map]
      rfl
    have e5 := vLc_at (δ := [.dat (.int p), .dat (iT a), .dat (iT b), .own (r'.map .int), s4, s5, s6, s7, .un]) (vs := [8]) (it := iE (oVar 3)) (g := .nm 8) (t := tYes) (e := fBin bMod (oVar 8) (oVar 0)) (δ1 := [.dat (.int p), .dat (iT a), .dat (iT b), .own (r'.map .int), s4, s5, s6, s7, .un]) (xs := r'.map .int) (ow := some 3) rfl rfl (by rw [List.length_map]; show r'.length ≤ 16000000; omega) e4
    have e6 := I_trimmed n (xs := r'.map fun x => x % p) (d := iL (r'.map fun x => x % p)) (.inr rfl) (by simp; omega)
    have e7 : trim (r'.map fun x => x % p) = mul p a b := by
      refine mul_of fun i => ?_
      rw [← hg']
      by_cases hi : i < r'.length
      · simp [hi]
      · rw [getD_big _ i (by simp; omega), getD_big _ i (by omega)]
        rfl
    rw [e7] at e6
    refine fnV (δ := [.dat (.int p), .dat (iT a), .dat (iT b), .own (r'.map .int), s4, s5, s6, s7, .un]) (δ0 := [.dat (.int p), .dat (iT a), .dat (iT b), .un, .un, .un, .un, .un, .un]) rfl rfl rfl rfl ?_
    refine (sSeq_nx (sIf_f t1)).trans ?_
    refine (sSeq_nx (sSet_at e1 (δ2 := [.dat (.int p), .dat (iT a), .dat (iT b), .own ((List.replicate (a.length + b.length - 1) (0 : Int)).map .int), .un, .un, .un, .un, .un]) rfl)).trans ?_
    refine (sSeq_nx (sFor_at (iEnum_at (i := 1) (xs := a) rfl) e2)).trans ?_
    exact sRet_at (vCall_at (aCons_at (oV_at e5) aNil_at) rfl rfl e6)
end IPL
end
section
set_option linter.all false
set_option maxRecDepth 20000
namespace IPL
open IP
open PySem (PyData)
abbrev invT : Et := tB (fBin bNe (oV (fBin bMod (oV (fBin bMul (oVar 1) (oVar 2))) (oVar 0))) (oV (vC (.int 1))))
abbrev invB : Es := sAug 2 (fun i j => i + j) (oV (vC (.int 1)))
theorem neI_at {f g : Eo} {δ δ1 δ2 : Env} {a b : Int} (h1 : f δ = some (.val (.int a), δ1)) (h2 : g δ1 = some (.val (.int b), δ2)) : fBin bNe f g δ = some (.dat (.bool (!(a == b))), δ2) := fBin_at h1 h2 (by simp)
theorem inv_loop {p v : Int} (h0 : 0 < p) (hv : -1000 ≤ v ∧ v ≤ 1000) : ∀ (d w m : Nat), v * ((w + d : Nat) : Int) % p = 1 → (∀ e, e < d → v * ((w + e : Nat) : Int) % p ≠ 1) → d < m → whileGo invT invB m [.dat (.int p), .dat (.int v), .dat (.int w)] = some (.nx, [.dat (.int p), .dat (.int v), .dat (.int (w + d : Nat))])
  | d, w, 0, _, _, h => by omega
  | 0, w, m + 1, h1, _, _ => by
    have g1 := tB_at (neI_at (oV_at (mod_at (oV_at (mul_at (f := oVar 1) (g := oVar 2) (δ := [.dat (.int p), .dat (.int v), .dat (.int w)]) (oVar_dat (d := .int v) rfl) (oVar_dat (d := .int w) rfl) hv)) (oVar_dat (i := 0) (d := .int p) rfl) h0)) (vC_at (d := .int 1)))
    rw [Nat.add_zero] at h1
    rw [h1] at g1
    exact whileGo_end g1
  | d + 1, w, m + 1, h1, h2, h3 => by
    have g1 := tB_at (neI_at (oV_at (mod_at (oV_at (mul_at (f := oVar 1) (g := oVar 2) (δ := [.dat (.int p), .dat (.int v), .dat (.int w)]) (oVar_dat (d := .int v) rfl) (oVar_dat (d := .int w) rfl) hv)) (oVar_dat (i := 0) (d := .int p) rfl) h0)) (vC_at (d := .int 1)))
    have h4 := h2 0 (by omega)
    rw [Nat.add_zero] at h4
    have h5 : (!(v * (w : Int) % p == 1)) = true := by
      rw [beq_eq_false_iff_ne.mpr h4]
      rfl
    rw [h5] at g1
    have g2 : invB [.dat (.int p), .dat (.int v), .dat (.int w)] = some (.nx, [.dat (.int p), .dat (.int v), .dat (.int (w + 1 : Nat))]) := augI_at (a := w) (b := 1) rfl vC_at rfl
    have g3 := inv_loop h0 hv d (w + 1) m (by rw [show w + 1 + d = w + (d + 1) by omega]; exact h1) (fun e he => by rw [show w + 1 + e = w + (e + 1) by omega]; exact h2 (e + 1) (by omega)) (by omega)
    rw [whileGo_go g1 g2, g3, show w + 1 + d = w + (d + 1) by omega]
theorem inv_table {p v : Int} (hp : isPrime p) (hv : 0 < v ∧ v < p) : ∃ d : Nat, v * ((1 + d : Nat) : Int) % p = 1 ∧ (∀ e, e < d → v * ((1 + e : Nat) : Int) % p ≠ 1) ∧ ((1 + d : Nat) : Int) < p := by
  rcases hp with rfl | rfl | rfl | rfl
  · have : v = 1 := by omega
    subst this
    exact ⟨0, by decide, by decide, by decide⟩
  · have : v = 1 ∨ v = 2 := by omega
    rcases this with rfl | rfl
    · exact ⟨0, by decide, by decide, by decide⟩
    · exact ⟨1, by decide, by decide, by decide⟩
  · have : v = 1 ∨ v = 2 ∨ v = 3 ∨ v = 4 := by omega
    rcases this with rfl | rfl | rfl | rfl
    · exact ⟨0, by decide, by decide, by decide⟩
    · exact ⟨2, by decide, by decide, by decide⟩
    · exact ⟨1, by decide, by decide, by decide⟩
    · exact ⟨3, by decide, by decide, by decide⟩
  · have : v = 1 ∨ v = 2 ∨ v = 3 ∨ v = 4 ∨ v = 5 ∨ v = 6 := by omega
    rcases this with rfl | rfl | rfl | rfl | rfl | rfl
    · exact ⟨0, by decide, by decide, by decide⟩
    · exact ⟨3, by decide, by decide, by decide⟩
    · exact ⟨4, by decide, by decide, by decide⟩
    · exact ⟨1, by decide, by decide, by decide⟩
    · exact ⟨2, by decide, by decide, by decide⟩
    · exact ⟨5, by decide, by decide, by decide⟩
theorem I_inverse (n : Nat) {p v : Int} (hp : isPrime p) (hv : 0 < v ∧ v < p) : ∃ w : Int, run (n + 1) "inverse" none [.int p, .int v] = some (.dat (.int w), none) ∧ 0 < w ∧ w < p ∧ v * w % p = 1 := by
  have pp := prime_pos hp
  obtain ⟨d, h1, h2, h3⟩ := inv_table hp hv
  refine ⟨((1 + d : Nat) : Int), ?_, by omega, h3, h1⟩
  rw [run_inverse]
  refine fnV (δ := [.dat (.int p), .dat (.int v), .dat (.int (1 + d : Nat))]) (δ0 := [.dat (.int p), .dat (.int v), .un]) rfl rfl rfl rfl ?_
  refine (sSeq_nx (δ1 := [.dat (.int p), .dat (.int v), .dat (.int (1 : Nat))]) rfl).trans ?_
  refine (sSeq_nx (δ1 := [.dat (.int p), .dat (.int v), .dat (.int (1 + d : Nat))]) (sWhile_at fun m hm => inv_loop (by omega) (by omega) d 1 m h1 h2 (by rw [hm]; unfold turns; omega))).trans ?_
  rfl
/-- a comprehension over a row in a variable -/
theorem lc_ints {δ : Env} {i v : Nat} {xs : List Int} {e : Ev} {f : Int → Int} (hi : δ[i]? = some (.dat (iT xs))) (hv : δ[v]? = some .un) (he : ∀ x ∈ xs, e (δ.set v (.dat (.int x))) = some (.dat (.int (f x)), δ.set v (.dat (.int x)))) (hl : xs.length ≤ 1000) : vLc [v] (iE (oVar i)) (.nm v) tYes e δ = some (.new ((xs.map f).map .int), δ) := by
  have vl : v < δ.length := by
    rcases Nat.lt_or_ge v δ.length with h | h
    · exact h
    · rw [List.getElem?_eq_none h] at hv
      cases hv
  have h1 : iE (oVar i) δ = some ((xs.map .int, none), δ) := by
    simp only [iE, oVar_dat hi, Option.bind_some, rd, itemsOf, Option.map_some, own?]
  have h4 := lcGo_map (vs := [v]) (g := .nm v) (t := tYes) (e := e) (src := xs.map .int) (ow := none) (δ := δ) PyData.int (fun x => .int (f x)) rfl xs (by
    intro x hx
    have gp : (Tg.nm v).put (.int x) δ = some (δ.set v (.dat (.int x))) := by simp only [Tg.put, setSlot, hv]
    have g4 : (δ.set v (.dat (.int x)))[v]? = some (.dat (.int x)) := by simp [vl]
    have g5 : (δ.set v (.dat (.int x))).set v .un = δ := by rw [List.set_set, set_self δ v _ hv]
    unfold lcTurn
    rw [gp, Option.bind_some, tYes, Option.bind_some, if_pos rfl, he x hx, Option.bind_some]
    simp only [unAll, g4, g5, Option.map_some, Res.toD])
  have := vLc_at h1 (by simp only [unAll, hv]) (by rw [List.length_map]; show xs.length ≤ 16000000; omega) h4
  rw [this]
  have f2 : backAll δ [v] δ = δ := by simp only [backAll, hv, set_self δ v _ hv]
  rw [f2, List.map_map]
  rfl
def lowL (p : Int) (ts : List Int) : List Int := 1 :: ts.map fun t => (-t) % p
theorem one_more {f : Ev} {δ δ1 : Env} {xs : List Int} (h : f δ = some (.new (xs.map .int), δ1)) (hl : xs.length ≤ 1000) (v : Int) : fBin bAdd (oV (vLst (aCons (oV (vC (.int v))) aNil))) (oV f) δ = some (.new ((v :: xs).map .int), δ1) := by
  have h0 : oV (vLst (aCons (oV (vC (.int v))) aNil)) δ = some (.val (.list [.int v]), δ) := by simp [line]
  refine fBin_at h0 (oV_at h) ?_
  have : [PyData.int v].length + (xs.map PyData.int).length ≤ line := by rw [List.length_map]; show 1 + xs.length ≤ 16000000; omega
  simp only [Res.toD, bAdd, if_pos this]
  rfl
theorem I_low_of (n : Nat) {p : Int} (h0 : 0 < p) {ts : List Int} (hl : ts.length ≤ 100) : run (n + 2) "low_of" none [.int p, iT ts] = some (.dat (iT (trim (lowL p ts))), none) := by
  rw [run_low_of]
  refine fn_val (δ := [.dat (.int p), .dat (iT ts), .un]) rfl rfl ?_
  have e1 := lc_ints (δ := [.dat (.int p), .dat (iT ts), .un]) (i := 1) (v := 2) (xs := ts) (e := fBin bMod (oV (fUn uNeg (oVar 2))) (oVar 0)) (f := fun t => (-t) % p) rfl rfl (by
    intro x hx
    exact mod_at (oV_at (r := .dat (.int (-x))) (δ1 := [.dat (.int p), .dat (iT ts), .dat (.int x)]) rfl) (oVar_dat (i := 0) (d := .int p) rfl) h0) (by omega)
  have e2 := one_more e1 (by simp; omega) 1
  have e3 := I_trimmed n (xs := lowL p ts) (d := iL (lowL p ts)) (.inr rfl) (by simp [lowL]; omega)
  exact sRet_at (vCall_at (aCons_at (oV_at e2) aNil_at) rfl rfl e3)
theorem cutV_hi {f g : Eo} {δ δ1 : Env} {xs : List Int} {a : Nat} (h : f δ = some (.val (iT xs), δ1)) (hf : g δ1 = some (.val (.int a), δ1)) : fSl f pNo (pSo g) δ = some (.dat (iT (xs.take a)), δ1) := by
  have e : cutD (xs.map .int) none (some (a : Int)) = (xs.take a).map .int := by
    rw [cutD_ints, show clampIx xs.length 0 none = 0 from rfl, List.drop_zero, Nat.sub_zero]
    have e2 : clampIx xs.length xs.length (some (a : Int)) = min a xs.length := by
      simp only [clampIx]
      rw [if_neg (by omega), Int.toNat_natCast]
    rw [e2]
    by_cases h : a ≤ xs.length
    · rw [Nat.min_eq_left h]
    · rw [Nat.min_eq_right (by omega), List.take_of_length_le (Nat.le_refl _), List.take_of_length_le (by omega)]
  simp only [fSl, h, pNo, pSo, hf, Option.bind_some, rd, e]
theorem nums_getD {p : Int} {xs : List Int} (hp : 0 < p) (h : nums p xs) (i : Nat) : 0 ≤ xs.getD i 0 ∧ xs.getD i 0 < p := by
  by_cases hi : i < xs.length
  · have f2 : xs[i]? = some xs[i] := List.getElem?_eq_getElem hi
    have f3 : xs.getD i 0 = xs[i] := by simp [f2]
    rw [f3]
    exact h _ (List.getElem_mem hi)
  · rw [getD_big _ _ (by omega)]
    omega
theorem I_fraction (n : Nat) (hn : 0 < n) {p : Int} (hp : isPrime p) {ts st : List Int} (ht : nums p ts) (hs : nums p st) (hl : st.length = ts.length) (hl2 : ts.length ≤ 60) : run (n + 5) "fraction" none [.int p, iT ts, iT st] = some (.dat (.tuple [iT (trim ((mul p st (trim (lowL p ts))).take ts.length)), iT (trim (lowL p ts))]), none) := by
  have pp := prime_pos hp
  have e1 := I_check_wired n hn hp ht hs hl hl2
  have e2 := I_low_of (n + 2) (p := p) (by omega) (ts := ts) (by omega)
  have hll : (trim (lowL p ts)).length ≤ 61 := by
    have h1 := trim_le (lowL p ts)
    have h2 : (lowL p ts).length = ts.length + 1 := by simp [lowL]
    omega
  have e3 := I_product_of (n + 2) (p := p) (by omega) (a := st) (b := trim (lowL p ts)) (fun i => by have := nums_getD (by omega) hs i; omega) (by omega) (by omega)
  have hml : ((mul p st (trim (lowL p ts))).take ts.length).length ≤ 60 := by rw [List.length_take]; omega
  have e4 := I_trimmed (n + 3) (xs := (mul p st (trim (lowL p ts))).take ts.length) (.inl rfl) (by omega)
  rw [run_fraction]
  generalize trim (lowL p ts) = low at *
  refine fnV (δ := [.dat (.int p), .dat (iT ts), .dat (iT st), .dat (iT low), .dat (iT ((mul p st low).take ts.length))]) (δ0 := [.dat (.int p), .dat (iT ts), .dat (iT st), .un, .un]) rfl rfl rfl rfl ?_
  have g1 : sEx (vCall (run (n + 4) "check_wired") (aCons (oVar 0) (aCons (oVar 1) (aCons (oVar 2) aNil)))) [.dat (.int p), .dat (iT ts), .dat (iT st), .un, .un] = some (.nx, [.dat (.int p), .dat (iT ts), .dat (iT st), .un, .un]) := by
    rw [sEx, call3 rfl rfl rfl e1]
    rfl
  refine (sSeq_nx g1).trans ?_
  refine (sSeq_nx (sSet_at (call2 (oVar_dat (i := 0) rfl) (oVar_dat (i := 1) rfl) e2) (δ2 := [.dat (.int p), .dat (iT ts), .dat (iT st), .dat (iT low), .un]) rfl)).trans ?_
  refine (sSeq_nx (sSet_at (cutV_hi (oV_at (call3 (i := 0) (j := 2) (k := 3) (δ := [.dat (.int p), .dat (iT ts), .dat (iT st), .dat (iT low), .un]) rfl rfl rfl e3)) (len_at (i := 1) (xs := ts) rfl)) (δ2 := [.dat (.int p), .dat (iT ts), .dat (iT st), .dat (iT low), .dat (iT ((mul p st low).take ts.length))]) rfl)).trans ?_
  exact sRet_at (vTup2_at (oV_at (vCall_at (aCons_at (oVar_dat (i := 4) rfl) aNil_at) rfl rfl e4)) (oVar_dat (i := 3) rfl))
end IPL
end
section
set_option linter.all false
set_option maxRecDepth 20000
namespace IPL
open IP
open PySem (PyData)
theorem fn_nil {F : Fn} {ds : List D} {δ0 δ : Env} {B : Es} (hb : F.byRef = false) (hl : ds.length = F.nps) (hB : F.body = B) (he : ds.map .dat ++ List.replicate (F.names - F.nps) .un = δ0) (h : B δ0 = some (.nx, δ)) : F.run none ds = some (.dat .none, none) := by
  simp only [Fn.run, hb, hl, if_true, Option.bind_some, hB, he, h]
theorem I_check_polynomial (n : Nat) {p : Int} {xs : List Int} (h : nums p xs) (hl : xs.length ≤ 201) (hp : polyL xs) : run (n + 3) "check_polynomial" none [.int p, iT xs] = some (.dat .none, none) := by
  have h1 := I_are_numbers n p 201 xs (by omega)
  rw [numsB_of h (by omega)] at h1
  rw [run_check_polynomial]
  refine fn_nil (δ0 := [.dat (.int p), .dat (iT xs)]) (δ := [.dat (.int p), .dat (iT xs)]) rfl rfl rfl rfl ?_
  have g1 : tNot (tV (oV (vCall (run (n + 2) "are_numbers") (aCons (oVar 0) (aCons (oVar 1) (aCons (oV (vC (.int 201))) aNil)))))) [.dat (.int p), .dat (iT xs)] = some (false, [.dat (.int p), .dat (iT xs)]) :=
    tNotV_at (vCall_at (aCons_at (oVar_dat rfl) (aCons_at (oVar_dat rfl) (aCons_at vC_at aNil_at))) rfl rfl h1)
  have g2 : fSl (oVar 1) (pSo (oV (fUn uNeg (oV (vC (.int 1)))))) pNo [.dat (.int p), .dat (iT xs)] = some (.dat (iT (xs.drop (xs.length - 1))), [.dat (.int p), .dat (iT xs)]) := by
    have := cut_last xs
    simp only [fSl, oVar, pNo, pSo, fUn, oV, vC, uNeg, List.getElem?_cons_succ, List.getElem?_cons_zero, Option.bind_some, Option.map_some, rd, Res.toD, slotD, this]
  have g3 : oV (vTup (aCons (oV (vC (.int 0))) aNil)) [.dat (.int p), .dat (iT xs)] = some (.val (iT [0]), [.dat (.int p), .dat (iT xs)]) := oV_at (vTup1_at vC_at)
  have g4 : bEq (iT (xs.drop (xs.length - 1))) (iT [0]) = some (.dat (.bool false)) := by
    rw [bEq, if_pos ⟨shaped_row _, shaped_row _⟩, eqv_row]
    congr 3
    apply decide_eq_false
    intro h
    rcases hp with rfl | hp
    · simp at h
    · by_cases hl : 0 < xs.length
      · rw [drop_last hl] at h
        exact hp (by simpa using h)
      · have : xs = [] := List.length_eq_zero_iff.mp (by omega)
        subst this
        simp at h
  exact sIf_f (tOr_ff g1 (tB_at (fBin_at (oV_at g2) g3 g4)))
def exV (p : Int) (ab low : List Int) (sc : Int) (row : List Int) : Int := (ab.getD row.length 0 - sg (fun k => low.getD (k + 1) 0 * row.getD (row.length - (k + 1)) 0) (min (row.length + 1) low.length - 1)) * sc % p
def exG (p : Int) (ab low : List Int) (sc : Int) : Nat → List Int → List Int
  | 0, row => row
  | k + 1, row => exG p ab low sc k (row ++ [exV p ab low sc row])
abbrev exItem : Ev := fBin bMul (oV (fBin bIx (oVar 2) (oVar 9))) (oV (fBin bIx (oVar 5) (oV (fBin bSub (oVar 6) (oVar 9)))))
abbrev exRange : Ei := iRange2 (oV (vC (.int 1))) (oV (vBi biMin (aCons (oV (fBin bAdd (oVar 6) (oV (vC (.int 1))))) (aCons (oV (vBi biLen (aCons (oVar 2) aNil))) aNil))))
abbrev exB : Es := sSeq (sSet 7 (vIte (tB (fBin bLt (oVar 6) (oV (vBi biLen (aCons (oVar 1) aNil))))) (fBin bIx (oVar 1) (oVar 6)) (vC (.int 0)))) (sSeq (sSet 8 (vBi biSum (aCons (oV (vLc [9] exRange (.nm 9) tYes exItem)) aNil))) (sApp 5 (fBin bMod (oV (fBin bMul (oV (fBin bSub (oVar 7) (oVar 8))) (oVar 4))) (oVar 0))))
theorem vBi1_at {b : List D → Option Res} {f : Eo} {δ δ1 : Env} {x : D} {r : Res} (h : f δ = some (.val x, δ1)) (hb : b [x] = some r) : vBi b (aCons f aNil) δ = some (r, δ1) := by
  simp only [vBi, aCons, aNil, h, Option.bind_some, Option.map_some, rdAll, rd, hb]
theorem vBi2_at {b : List D → Option Res} {f g : Eo} {δ δ1 δ2 : Env} {x y : D} {r : Res} (h : f δ = some (.val x, δ1)) (h2 : g δ1 = some (.val y, δ2)) (hb : b [x, y] = some r) : vBi b (aCons f (aCons g aNil)) δ = some (r, δ2) := by
  simp only [vBi, aCons, aNil, h, h2, Option.bind_some, Option.map_some, rdAll, rd, hb]
theorem lcTurn_at {vs : List Nat} {g : Tg} {e : Ev} {x : D} {δ δ1 δ2 δ3 : Env} {r : Res} (hp : g.put x δ = some δ1) (he : e δ1 = some (r, δ2)) (hu : unAll vs δ2 = some δ3) : lcTurn vs g tYes e x δ = some (some r.toD, δ3) := by
  unfold lcTurn
  rw [hp, Option.bind_some, tYes, Option.bind_some, if_pos rfl, he, Option.bind_some, hu]
  rfl
theorem ex_sum {p above : Slot} {x3 x4 x7 x8 : Slot} {low row : List Int} (hl0 : 0 < low.length) (hl : low.length ≤ 1000) (hb : ∀ i, -1000 ≤ low.getD i 0 ∧ low.getD i 0 ≤ 1000) (hr : row.length ≤ 1000) :
    vBi biSum (aCons (oV (vLc [9] exRange (.nm 9) tYes exItem)) aNil) [p, above, .dat (iT low), x3, x4, .own (row.map .int), .dat (.int row.length), x7, x8, .un] = some (.dat (.int (sg (fun k => low.getD (k + 1) 0 * row.getD (row.length - (k + 1)) 0) (min (row.length + 1) low.length - 1))), [p, above, .dat (iT low), x3, x4, .own (row.map .int), .dat (.int row.length), x7, x8, .un]) := by
  have g1 : oV (vBi biMin (aCons (oV (fBin bAdd (oVar 6) (oV (vC (.int 1))))) (aCons (oV (vBi biLen (aCons (oVar 2) aNil))) aNil))) [p, above, .dat (iT low), x3, x4, .own (row.map .int), .dat (.int row.length), x7, x8, .un] = some (.val (.int ((min (row.length + 1) low.length : Nat) : Int)), [p, above, .dat (iT low), x3, x4, .own (row.map .int), .dat (.int row.length), x7, x8, .un]) := by
    have a1 := oV_at (add_at (f := oVar 6) (g := oV (vC (.int 1))) (δ := [p, above, .dat (iT low), x3, x4, .own (row.map .int), .dat (.int row.length), x7, x8, .un]) (oVar_dat (d := .int row.length) rfl) vC_at)
    have a2 := len_at (i := 2) (xs := low) (δ := [p, above, .dat (iT low), x3, x4, .own (row.map .int), .dat (.int row.length), x7, x8, .un]) rfl
    have a3 : biMin [.int ((row.length : Int) + 1), .int low.length] = some (.dat (.int ((min (row.length + 1) low.length : Nat) : Int))) := by
      simp only [biMin]
      congr 3
      split <;> omega
    exact oV_at (vBi2_at a1 a2 a3)
  have g2 := iRange2_at (f := oV (vC (.int 1))) (i := 1) (δ := [p, above, .dat (iT low), x3, x4, .own (row.map .int), .dat (.int row.length), x7, x8, .un]) vC_at g1 (by omega) (by omega)
  rw [show (((min (row.length + 1) low.length : Nat) : Int) - 1).toNat = min (row.length + 1) low.length - 1 by omega] at g2
  have e1 := lcGo_map (vs := [9]) (g := .nm 9) (t := tYes) (e := exItem) (src := rangeD 1 (min (row.length + 1) low.length - 1)) (ow := none) (δ := [p, above, .dat (iT low), x3, x4, .own (row.map .int), .dat (.int row.length), x7, x8, .un]) (fun (k : Nat) => .int (1 + (k : Int))) (fun k => .int (low.getD (k + 1) 0 * row.getD (row.length - (k + 1)) 0)) rfl (List.range (min (row.length + 1) low.length - 1)) (by
    intro k hk
    have hk' := List.mem_range.mp hk
    have w0 : (Tg.nm 9).put (.int (1 + (k : Int))) [p, above, .dat (iT low), x3, x4, .own (row.map .int), .dat (.int row.length), x7, x8, .un] = some [p, above, .dat (iT low), x3, x4, .own (row.map .int), .dat (.int row.length), x7, x8, .dat (.int (k + 1 : Nat))] := by
      rw [show 1 + (k : Int) = ((k + 1 : Nat) : Int) by omega]
      rfl
    have w1 := ix_at (f := oVar 2) (g := oVar 9) (xs := low) (a := k + 1) (δ := [p, above, .dat (iT low), x3, x4, .own (row.map .int), .dat (.int row.length), x7, x8, .dat (.int (k + 1 : Nat))]) (oVar_dat rfl) (oVar_dat rfl) (by omega)
    have w2 : oV (fBin bSub (oVar 6) (oVar 9)) [p, above, .dat (iT low), x3, x4, .own (row.map .int), .dat (.int row.length), x7, x8, .dat (.int (k + 1 : Nat))] = some (.val (.int (row.length - (k + 1) : Nat)), [p, above, .dat (iT low), x3, x4, .own (row.map .int), .dat (.int row.length), x7, x8, .dat (.int (k + 1 : Nat))]) := by
      refine (oV_at (sub_at (oVar_dat (d := .int row.length) rfl) (oVar_dat (d := .int (k + 1 : Nat)) rfl))).trans ?_
      rw [show ((row.length - (k + 1) : Nat) : Int) = (row.length : Int) - (k + 1 : Nat) by omega]
      rfl
    have w3 := ixO_at (i := 5) (xs := row) (a := row.length - (k + 1)) rfl w2 rfl (by omega)
    have w4 := mul_at (oV_at w1) (oV_at w3) (hb (k + 1))
    exact lcTurn_at w0 w4 rfl)
  rw [← rangeD_eq] at e1
  have e2 := vLc_at g2 (vs := [9]) (δ2 := [p, above, .dat (iT low), x3, x4, .own (row.map .int), .dat (.int row.length), x7, x8, .un]) rfl (by simp [rangeD, line]; omega) e1
  refine vBi1_at (oV_at e2) ?_
  rw [Res.toD, biSum, intsOf_fun, Option.map_some, sum_sg]
theorem mulR_at {f g : Eo} {δ δ1 δ2 : Env} {a b : Int} (h1 : f δ = some (.val (.int a), δ1)) (h2 : g δ1 = some (.val (.int b), δ2)) (hb : -1000 ≤ b ∧ b ≤ 1000) : fBin bMul f g δ = some (.dat (.int (a * b)), δ2) := by
  refine fBin_at h1 h2 ?_
  simp only [bMul]
  rw [if_pos (.inl (.inr ⟨by omega, by omega⟩))]
theorem ex_turn {p sc : Int} (h0 : 0 < p) (hsc : -1000 ≤ sc ∧ sc ≤ 1000) {above low row : List Int} (hl0 : 0 < low.length) (hl : low.length ≤ 1000) (hb : ∀ i, -1000 ≤ low.getD i 0 ∧ low.getD i 0 ≤ 1000) (hr : row.length ≤ 1000) {x3 s7 s8 : Slot} (h7 : slotOk s7) (h8 : slotOk s8) :
    ∃ s7' s8', exB [.dat (.int p), .dat (iT above), .dat (iT low), x3, .dat (.int sc), .own (row.map .int), .dat (.int row.length), s7, s8, .un] = some (.nx, [.dat (.int p), .dat (iT above), .dat (iT low), x3, .dat (.int sc), .own ((row ++ [exV p above low sc row]).map .int), .dat (.int row.length), s7', s8', .un]) ∧ slotOk s7' ∧ slotOk s8' := by
  refine ⟨.dat (.int (above.getD row.length 0)), .dat (.int (sg (fun k => low.getD (k + 1) 0 * row.getD (row.length - (k + 1)) 0) (min (row.length + 1) low.length - 1))), ?_, .inr ⟨_, rfl⟩, .inr ⟨_, rfl⟩⟩
  have g1 := tB_at (ltI_at (f := oVar 6) (a := row.length) (δ := [.dat (.int p), .dat (iT above), .dat (iT low), x3, .dat (.int sc), .own (row.map .int), .dat (.int row.length), s7, s8, .un]) (oVar_dat rfl) (len_at (i := 1) (xs := above) rfl))
  have g2 : vIte (tB (fBin bLt (oVar 6) (oV (vBi biLen (aCons (oVar 1) aNil))))) (fBin bIx (oVar 1) (oVar 6)) (vC (.int 0)) [.dat (.int p), .dat (iT above), .dat (iT low), x3, .dat (.int sc), .own (row.map .int), .dat (.int row.length), s7, s8, .un] = some (.dat (.int (above.getD row.length 0)), [.dat (.int p), .dat (iT above), .dat (iT low), x3, .dat (.int sc), .own (row.map .int), .dat (.int row.length), s7, s8, .un]) := by
    by_cases h : row.length < above.length
    · rw [decide_eq_true (show (row.length : Int) < (above.length : Int) by omega)] at g1
      rw [vIte, g1, Option.bind_some, if_pos rfl]
      exact ix_at (oVar_dat rfl) (oVar_dat rfl) h
    · rw [decide_eq_false (show ¬ (row.length : Int) < (above.length : Int) by omega)] at g1
      rw [vIte, g1, Option.bind_some, if_neg (by simp), getD_big _ _ (by omega)]
      rfl
  refine (sSeq_nx (sSet_at g2 (δ2 := [.dat (.int p), .dat (iT above), .dat (iT low), x3, .dat (.int sc), .own (row.map .int), .dat (.int row.length), .dat (.int (above.getD row.length 0)), s8, .un]) (by rcases h7 with rfl | ⟨d, rfl⟩ <;> rfl))).trans ?_
  have g5 := ex_sum (p := .dat (.int p)) (above := .dat (iT above)) (x3 := x3) (x4 := .dat (.int sc)) (x7 := .dat (.int (above.getD row.length 0))) (x8 := s8) hl0 hl hb hr
  unfold exV
  refine (sSeq_nx (sSet_at g5 (δ2 := [.dat (.int p), .dat (iT above), .dat (iT low), x3, .dat (.int sc), .own (row.map .int), .dat (.int row.length), .dat (.int (above.getD row.length 0)), .dat (.int (sg (fun k => low.getD (k + 1) 0 * row.getD (row.length - (k + 1)) 0) (min (row.length + 1) low.length - 1))), .un]) (by rcases h8 with rfl | ⟨d, rfl⟩ <;> rfl))).trans ?_
  generalize sg (fun k => low.getD (k + 1) 0 * row.getD (row.length - (k + 1)) 0) (min (row.length + 1) low.length - 1) = sm
  have g3 := mulR_at (oV_at (sub_at (f := oVar 7) (g := oVar 8) (δ := [.dat (.int p), .dat (iT above), .dat (iT low), x3, .dat (.int sc), .own (row.map .int), .dat (.int row.length), .dat (.int (above.getD row.length 0)), .dat (.int sm), .un]) (oVar_dat rfl) (oVar_dat rfl))) (oVar_dat (i := 4) (d := .int sc) rfl) hsc
  have g4 := mod_at (oV_at g3) (oVar_dat (i := 0) (d := .int p) rfl) h0
  refine (sApp_at rfl g4 rfl (by rw [List.length_map]; show row.length < 16000000; omega)).trans ?_
  rw [List.map_append]
  rfl
theorem ex_loop {p sc : Int} (h0 : 0 < p) (hsc : -1000 ≤ sc ∧ sc ≤ 1000) {above low : List Int} (hl0 : 0 < low.length) (hl : low.length ≤ 1000) (hb : ∀ i, -1000 ≤ low.getD i 0 ∧ low.getD i 0 ≤ 1000) {x3 : Slot} : ∀ (m : Nat) (row : List Int) (s6 s7 s8 : Slot), row.length + m ≤ 1000 → slotOk s6 → slotOk s7 → slotOk s8 →
    ∃ s6' s7' s8', forGo (.nm 6) exB (rangeD row.length m) [.dat (.int p), .dat (iT above), .dat (iT low), x3, .dat (.int sc), .own (row.map .int), s6, s7, s8, .un] = some (.nx, [.dat (.int p), .dat (iT above), .dat (iT low), x3, .dat (.int sc), .own ((exG p above low sc m row).map .int), s6', s7', s8', .un])
  | 0, row, s6, s7, s8, _, _, _, _ => ⟨s6, s7, s8, rfl⟩
  | m + 1, row, s6, s7, s8, hr, h6, h7, h8 => by
    obtain ⟨t7, t8, e1, k7, k8⟩ := ex_turn h0 hsc hl0 hl hb (row := row) (above := above) (by omega) h7 h8 (x3 := x3)
    obtain ⟨u6, u7, u8, e2⟩ := ex_loop h0 hsc hl0 hl hb (x3 := x3) (above := above) m (row ++ [exV p above low sc row]) (.dat (.int row.length)) t7 t8 (by simp; omega) (.inr ⟨_, rfl⟩) k7 k8
    refine ⟨u6, u7, u8, ?_⟩
    have e3 : (Tg.nm 6).put (.int row.length) [.dat (.int p), .dat (iT above), .dat (iT low), x3, .dat (.int sc), .own (row.map .int), s6, s7, s8, .un] = some [.dat (.int p), .dat (iT above), .dat (iT low), x3, .dat (.int sc), .own (row.map .int), .dat (.int row.length), s7, s8, .un] := by
      rcases h6 with rfl | ⟨d, rfl⟩ <;> rfl
    rw [rangeD_succ, forGo_nx e3 e1, exG, ← e2, show ((row ++ [exV p above low sc row]).length : Int) = (row.length : Int) + 1 by simp]
end IPL
end
section
set_option linter.all false
set_option maxRecDepth 20000
namespace IPL
open IP
open PySem (PyData)
/-! ### rows that grow -/
def gro (v : List Int → Int) : Nat → List Int → List Int
  | 0, row => row
  | k + 1, row => gro v k (row ++ [v row])
theorem gro_length (v : List Int → Int) : ∀ (k : Nat) (row : List Int), (gro v k row).length = row.length + k
  | 0, row => rfl
  | k + 1, row => by
    rw [gro, gro_length v k]
    simp
    omega
theorem gro_prefix (v : List Int → Int) : ∀ (m : Nat) (row : List Int), (gro v m row).take row.length = row
  | 0, row => by rw [gro, List.take_length]
  | m + 1, row => by
    have h := gro_prefix v m (row ++ [v row])
    have h2 : (gro v (m + 1) row).take row.length = ((gro v m (row ++ [v row])).take (row ++ [v row]).length).take row.length := by
      rw [gro, List.take_take]
      congr 1
      simp
    rw [h2, h]
    simp
theorem gro_on (v : List Int → Int) : ∀ (m : Nat) (row : List Int) (i : Nat), row.length ≤ i → i < row.length + m → (gro v m row).getD i 0 = v ((gro v m row).take i)
  | 0, row, i, h1, h2 => by omega
  | m + 1, row, i, h1, h2 => by
    rw [gro]
    by_cases h : i = row.length
    · subst h
      have h3 := gro_prefix v m (row ++ [v row])
      have h4 : (gro v m (row ++ [v row])).take row.length = row := by
        have : (gro v m (row ++ [v row])).take row.length = ((gro v m (row ++ [v row])).take (row ++ [v row]).length).take row.length := by
          rw [List.take_take]
          congr 1
          simp
        rw [this, h3]
        simp
      have h5 : (gro v m (row ++ [v row]))[row.length]? = some (v row) := by
        have : (gro v m (row ++ [v row]))[row.length]? = ((gro v m (row ++ [v row])).take (row ++ [v row]).length)[row.length]? := by
          rw [List.getElem?_take_of_lt (by simp)]
        rw [this, h3]
        simp
      rw [h4, List.getD_eq_getElem?_getD, h5]
      rfl
    · exact gro_on v m _ i (by simp; omega) (by simp; omega)
theorem exG_gro (p : Int) (above low : List Int) (sc : Int) : ∀ (k : Nat) (row : List Int), exG p above low sc k row = gro (exV p above low sc) k row
  | 0, _ => rfl
  | k + 1, row => by rw [exG, gro, exG_gro p above low sc k]
theorem grow_gro (p : Int) (ts : List Int) : ∀ (k : Nat) (row : List Int), grow p ts k row = gro (nextN p ts) k row
  | 0, _ => rfl
  | k + 1, row => by rw [grow, gro, grow_gro p ts k]
/-- the expansion -/
def exN (p : Int) (above low : List Int) (sc : Int) (c : Nat) : List Int := exG p above low sc c []
theorem exN_length (p : Int) (above low : List Int) (sc : Int) (c : Nat) : (exN p above low sc c).length = c := by
  rw [exN, exG_gro, gro_length]
  simp
theorem exN_at (p : Int) (above low : List Int) (sc : Int) (c i : Nat) (hi : i < c) : (exN p above low sc c).getD i 0 = (above.getD i 0 - sg (fun k => low.getD (k + 1) 0 * (exN p above low sc c).getD (i - (k + 1)) 0) i) * sc % p := by
  have h := gro_on (exV p above low sc) c [] i (by simp) (by simpa using hi)
  rw [← exG_gro] at h
  have h' : (exN p above low sc c).getD i 0 = exV p above low sc ((exN p above low sc c).take i) := h
  rw [h']
  have hl : ((exN p above low sc c).take i).length = i := by rw [List.length_take, exN_length]; omega
  unfold exV
  rw [hl]
  congr 3
  have e1 : sg (fun k => low.getD (k + 1) 0 * ((exN p above low sc c).take i).getD (i - (k + 1)) 0) (min (i + 1) low.length - 1) = sg (fun k => low.getD (k + 1) 0 * (exN p above low sc c).getD (i - (k + 1)) 0) (min (i + 1) low.length - 1) := sg_congr fun j hj => by
    rw [getD_take, if_pos (by omega)]
  rw [e1]
  by_cases hm : i ≤ low.length - 1
  · rw [show min (i + 1) low.length - 1 = i by omega]
  · have := sg_more (f := fun k => low.getD (k + 1) 0 * (exN p above low sc c).getD (i - (k + 1)) 0) (n := min (i + 1) low.length - 1) (i - (min (i + 1) low.length - 1)) (fun j hj => by
      show low.getD (j + 1) 0 * _ = 0
      rw [getD_big low _ (by omega), Int.zero_mul])
    rw [← this]
    congr 1
    omega
theorem exN_nums {p : Int} (h0 : 0 < p) (above low : List Int) (sc : Int) (c : Nat) : nums p (exN p above low sc c) := by
  intro x hx
  obtain ⟨i, hi, rfl⟩ := List.mem_iff_getElem.mp hx
  have h := exN_at p above low sc c i (by rw [exN_length] at hi; exact hi)
  have f3 : (exN p above low sc c).getD i 0 = (exN p above low sc c)[i] := by simp [hi]
  rw [f3] at h
  rw [h]
  exact ⟨Int.emod_nonneg _ (by omega), Int.emod_lt_of_pos _ h0⟩
/-- the sums of products, from both sides -/
def cv (a b : List Int) (i : Nat) : Int := sg (fun j => a.getD j 0 * b.getD (i - j) 0) (i + 1)
theorem ab_cv (a b : List Int) (i : Nat) : ab a b a.length i = cv a b i := by
  unfold ab cv
  have h1 := sg_more (f := fun j => if j ≤ i then a.getD j 0 * b.getD (i - j) 0 else 0) (n := a.length) (i + 1) (fun j hj => by
    show (if j ≤ i then a.getD j 0 * b.getD (i - j) 0 else 0) = 0
    rw [getD_big a _ hj, Int.zero_mul]
    split <;> rfl)
  have h2 := sg_more (f := fun j => if j ≤ i then a.getD j 0 * b.getD (i - j) 0 else 0) (n := i + 1) a.length (fun j hj => by
    show (if j ≤ i then a.getD j 0 * b.getD (i - j) 0 else 0) = 0
    rw [if_neg (by omega)])
  rw [← h1, show a.length + (i + 1) = i + 1 + a.length by omega, h2]
  exact sg_congr fun j hj => by rw [if_pos (by omega)]
theorem cv_comm (a b : List Int) (i : Nat) : cv a b i = cv b a i := by
  unfold cv
  rw [← sg_flip]
  exact sg_congr fun j hj => by
    rw [Int.mul_comm, show i + 1 - 1 - j = i - j by omega, show i - (i - j) = j by omega]
theorem cv_ext {a b a' b' : List Int} (ha : ∀ i, a.getD i 0 = a'.getD i 0) (hb : ∀ i, b.getD i 0 = b'.getD i 0) (i : Nat) : cv a b i = cv a' b' i := sg_congr fun j _ => by rw [ha, hb]
theorem mul_getD (p : Int) (a b : List Int) (i : Nat) : (mul p a b).getD i 0 = cv a b i % p := by
  rw [← ab_cv]
  by_cases hi : i < a.length + b.length
  · rw [mul, trim_getD]
    simp [hi]
  · rw [getD_big _ i (by
      have := trim_le ((List.range (a.length + b.length)).map fun i => ab a b a.length i % p)
      rw [mul]
      simp at this
      omega)]
    unfold ab
    rw [sg_zero]
    · rfl
    · intro j hj
      by_cases hji : j ≤ i
      · rw [if_pos hji, getD_big b _ (by omega), Int.mul_zero]
      · rw [if_neg hji]
theorem cv_front (a b : List Int) (i : Nat) : cv a b i = a.getD 0 0 * b.getD i 0 + sg (fun k => a.getD (k + 1) 0 * b.getD (i - (k + 1)) 0) i := by
  unfold cv
  rw [sg_front]
  rfl
theorem emod_of {p x y : Int} (h : p ∣ x - y) : x % p = y % p := Int.emod_eq_emod_iff_emod_sub_eq_zero.mpr (Int.emod_eq_zero_of_dvd h)
theorem emod_small {p x : Int} (h : 0 ≤ x ∧ x < p) : x % p = x := Int.emod_eq_of_lt h.1 h.2
/-- the series times low is above -/
theorem cv_ex {p : Int} {above low : List Int} {sc : Int} (h0 : 0 < p) (hs : low.getD 0 0 * sc % p = 1 % p) (c i : Nat) (hi : i < c) : cv low (exN p above low sc c) i % p = above.getD i 0 % p := by
  rw [cv_front, exN_at p above low sc c i hi]
  generalize sg (fun k => low.getD (k + 1) 0 * (exN p above low sc c).getD (i - (k + 1)) 0) i = S
  generalize above.getD i 0 = A
  generalize low.getD 0 0 = l at *
  rw [Int.add_emod, Int.mul_emod, Int.emod_emod, ← Int.mul_emod, show l * ((A - S) * sc) = (A - S) * (l * sc) by rw [← Int.mul_assoc, Int.mul_comm l, Int.mul_assoc], Int.mul_emod, hs, ← Int.mul_emod, Int.mul_one, ← Int.add_emod]
  congr 1
  omega
end IPL
end
section
set_option linter.all false
set_option maxRecDepth 20000
namespace IPL
open IP
open PySem (PyData)
theorem low_zero (p : Int) (ts : List Int) : (lowL p ts).getD 0 0 = 1 := rfl
theorem low_next (p : Int) (ts : List Int) (k : Nat) : (lowL p ts).getD (k + 1) 0 = (-(ts.getD k 0)) % p := by
  unfold lowL
  rw [List.getD_cons_succ]
  by_cases h : k < ts.length
  · simp [h]
  · rw [getD_big _ _ (by simp; omega), getD_big _ _ (by omega)]
    simp
theorem firstN_start {p : Int} {ts st : List Int} (hl : st.length = ts.length) {c i : Nat} (h1 : i < ts.length) (h2 : i < c) : (firstN p ts st c).getD i 0 = st.getD i 0 := by
  unfold firstN
  rw [grow_gro]
  have h := gro_prefix (nextN p ts) (c - ts.length) (st.take c)
  have h3 : (gro (nextN p ts) (c - ts.length) (st.take c)).getD i 0 = ((gro (nextN p ts) (c - ts.length) (st.take c)).take (st.take c).length).getD i 0 := by
    rw [getD_take, if_pos (by rw [List.length_take]; omega)]
  rw [h3, h, getD_take, if_pos h2]
theorem firstN_goes {p : Int} {ts st : List Int} (hl : st.length = ts.length) {c i : Nat} (h1 : ts.length ≤ i) (h2 : i < c) : (firstN p ts st c).getD i 0 = sg (fun k => ts.getD k 0 * (firstN p ts st c).getD (i - (k + 1)) 0) ts.length % p := by
  have h : (firstN p ts st c).getD i 0 = nextN p ts ((firstN p ts st c).take i) := by
    unfold firstN
    rw [grow_gro]
    exact gro_on _ _ _ i (by rw [List.length_take]; omega) (by rw [List.length_take]; omega)
  rw [h, nextN_take h1 (by rw [firstN_length p hl]; omega), sum_sg]
  congr 1
  exact sg_congr fun k hk => by rw [show i - 1 - k = i - (k + 1) by omega]
theorem ex_run {p : Int} (hp : isPrime p) {ts st : List Int} (hs : nums p st) (hl : st.length = ts.length) {sc : Int} (hsc : sc = 1) (c : Nat) : exN p (trim ((mul p st (trim (lowL p ts))).take ts.length)) (trim (lowL p ts)) sc c = firstN p ts st c := by
  have pp := prime_pos hp
  subst hsc
  apply list_ext
  · rw [exN_length, firstN_length p hl]
  · intro i hi
    rw [exN_length] at hi
    -- all below agree
    induction i using Nat.strongRecOn with
    | _ i ih =>
    rw [exN_at _ _ _ _ _ _ hi, Int.mul_one]
    have e1 : sg (fun k => (trim (lowL p ts)).getD (k + 1) 0 * (exN p (trim ((mul p st (trim (lowL p ts))).take ts.length)) (trim (lowL p ts)) 1 c).getD (i - (k + 1)) 0) i = sg (fun k => (-(ts.getD k 0)) % p * (firstN p ts st c).getD (i - (k + 1)) 0) i := sg_congr fun k hk => by
      rw [ih (i - (k + 1)) (by omega) (by omega), trim_getD, low_next]
    rw [e1, trim_getD, getD_take]
    by_cases h : i < ts.length
    · rw [if_pos h, mul_getD, cv_comm, cv_front, trim_getD, low_zero, firstN_start hl h hi]
      have e2 : sg (fun k => (trim (lowL p ts)).getD (k + 1) 0 * st.getD (i - (k + 1)) 0) i = sg (fun k => (-(ts.getD k 0)) % p * (firstN p ts st c).getD (i - (k + 1)) 0) i := sg_congr fun k hk => by
        rw [trim_getD, low_next, firstN_start hl (by omega) (by omega)]
      rw [e2]
      generalize sg (fun k => (-(ts.getD k 0)) % p * (firstN p ts st c).getD (i - (k + 1)) 0) i = T
      have hb := nums_getD (p := p) (by omega) hs i
      rw [Int.one_mul, Int.sub_emod, Int.emod_emod, ← Int.sub_emod, show st.getD i 0 + T - T = st.getD i 0 by omega]
      exact emod_small hb
    · rw [if_neg h, firstN_goes hl (by omega) hi]
      apply emod_of
      have e3 : sg (fun k => ts.getD k 0 * (firstN p ts st c).getD (i - (k + 1)) 0) ts.length = sg (fun k => ts.getD k 0 * (firstN p ts st c).getD (i - (k + 1)) 0) i := by
        have := sg_more (f := fun k => ts.getD k 0 * (firstN p ts st c).getD (i - (k + 1)) 0) (n := ts.length) (i - ts.length) (fun j hj => by
          show ts.getD j 0 * _ = 0
          rw [getD_big ts _ hj, Int.zero_mul])
        rw [← this]
        congr 1
        omega
      have e4 : p ∣ sg (fun k => (-(ts.getD k 0)) % p * (firstN p ts st c).getD (i - (k + 1)) 0) i - sg (fun k => -(ts.getD k 0) * (firstN p ts st c).getD (i - (k + 1)) 0) i := sg_dvd fun k hk => by
        rw [← Int.sub_mul]
        refine Int.dvd_trans ?_ (Int.dvd_mul_right _ _)
        have := Int.emod_add_mul_ediv (-(ts.getD k 0)) p
        exact ⟨-(-(ts.getD k 0) / p), by rw [Int.mul_neg]; omega⟩
      have e5 : sg (fun k => -(ts.getD k 0) * (firstN p ts st c).getD (i - (k + 1)) 0) i = -sg (fun k => ts.getD k 0 * (firstN p ts st c).getD (i - (k + 1)) 0) i := by
        generalize i = n at *
        have : ∀ (f : Nat → Int) (m : Nat), sg (fun k => -f k) m = -sg f m := by
          intro f m
          induction m with
          | zero => rfl
          | succ m ih => rw [sg, sg, ih]; omega
        rw [← this]
        exact sg_congr fun k _ => Int.neg_mul _ _
      rw [e3]
      rw [e5] at e4
      generalize sg (fun k => (-(ts.getD k 0)) % p * (firstN p ts st c).getD (i - (k + 1)) 0) i = X at *
      generalize sg (fun k => ts.getD k 0 * (firstN p ts st c).getD (i - (k + 1)) 0) i = Y at *
      obtain ⟨z, hz⟩ := e4
      exact ⟨-z, by rw [Int.mul_neg]; omega⟩
theorem I_expansion (n : Nat) {p : Int} (hp : isPrime p) {above low : List Int} (ha : nums p above) (hal : above.length ≤ 201) (hap : polyL above) (hb : nums p low) (hbl : low.length ≤ 201) (hbp : polyL low) (h1 : low.getD 0 0 ≠ 0) (c : Nat) (hc : c ≤ 400) :
    ∃ sc : Int, run (n + 4) "expansion" none [.int p, iT above, iT low, .int c] = some (.dat (iT (exN p above low sc c)), none) ∧ 0 < sc ∧ sc < p ∧ low.getD 0 0 * sc % p = 1 := by
  have pp := prime_pos hp
  have hl0 : 0 < low.length := by
    apply Nat.pos_of_ne_zero
    intro h
    rw [List.length_eq_zero_iff.mp h] at h1
    exact h1 rfl
  have hg := nums_getD (p := p) (by omega) hb 0
  obtain ⟨sc, e1, s1, s2, s3⟩ := I_inverse (n + 2) hp (v := low.getD 0 0) (by omega)
  refine ⟨sc, ?_, s1, s2, s3⟩
  have e2 := I_check_prime (n + 1) hp
  have e3 := I_check_polynomial n ha hal hap
  have e4 := I_check_polynomial n hb hbl hbp
  have e5 := I_check_number (n + 1) (v := c) (a := 0) (b := 400) (by omega) (by omega)
  obtain ⟨s6, s7, s8, e6⟩ := ex_loop (p := p) (sc := sc) (by omega) (by omega) hl0 (by omega) (fun i => by have := nums_getD (p := p) (by omega) hb i; omega) (above := above) (x3 := .dat (.int c)) c [] .un .un .un (by simp; omega) (.inl rfl) (.inl rfl) (.inl rfl)
  rw [run_expansion]
  refine fnV (δ := [.dat (.int p), .dat (iT above), .dat (iT low), .dat (.int c), .dat (.int sc), .own ((exN p above low sc c).map .int), s6, s7, s8, .un]) (δ0 := [.dat (.int p), .dat (iT above), .dat (iT low), .dat (.int c), .un, .un, .un, .un, .un, .un]) rfl rfl rfl rfl ?_
  have sEx_at : ∀ {f : Ev} {δ δ1 : Env} {r : Res}, f δ = some (r, δ1) → sEx f δ = some (.nx, δ1) := by
    intro f δ δ1 r h
    rw [sEx, h]
    rfl
  refine (sSeq_nx (sEx_at (vCall_at (aCons_at (oVar_dat rfl) aNil_at) rfl rfl e2))).trans ?_
  refine (sSeq_nx (sEx_at (call2 (oVar_dat rfl) (oVar_dat rfl) e3))).trans ?_
  refine (sSeq_nx (sEx_at (call2 (oVar_dat rfl) (oVar_dat rfl) e4))).trans ?_
  refine (sSeq_nx (sEx_at (vCall_at (aCons_at (oVar_dat rfl) (aCons_at vC_at (aCons_at vC_at aNil_at))) rfl rfl e5))).trans ?_
  have g0 := ix_at (f := oVar 2) (g := oV (vC (.int 0))) (xs := low) (a := 0) (δ := [.dat (.int p), .dat (iT above), .dat (iT low), .dat (.int c), .un, .un, .un, .un, .un, .un]) (oVar_dat rfl) vC_at hl0
  have g1 := tB_at (eqI_at (oV_at g0) (vC_at (d := .int 0)))
  rw [show (low.getD 0 0 == 0) = false from beq_eq_false_iff_ne.mpr h1] at g1
  have g2 : tNot (tV (oVar 2)) [.dat (.int p), .dat (iT above), .dat (iT low), .dat (.int c), .un, .un, .un, .un, .un, .un] = some (false, [.dat (.int p), .dat (iT above), .dat (iT low), .dat (.int c), .un, .un, .un, .un, .un, .un]) := by
    cases low with
    | nil => simp at hl0
    | cons x l => rfl
  refine (sSeq_nx (sIf_f (tOr_ff g2 g1))).trans ?_
  refine (sSeq_nx (sSet_at (call2 (oVar_dat (i := 0) rfl) (oV_at g0) e1) (δ2 := [.dat (.int p), .dat (iT above), .dat (iT low), .dat (.int c), .dat (.int sc), .un, .un, .un, .un, .un]) rfl)).trans ?_
  refine (sSeq_nx (δ1 := [.dat (.int p), .dat (iT above), .dat (iT low), .dat (.int c), .dat (.int sc), .own ([].map .int), .un, .un, .un, .un]) (by simp [line])).trans ?_
  have g3 := iRange1_at (f := oVar 3) (δ := [.dat (.int p), .dat (iT above), .dat (iT low), .dat (.int c), .dat (.int sc), .own (([] : List Int).map .int), .un, .un, .un, .un]) (j := c) (oVar_dat rfl) (by omega)
  rw [Int.toNat_natCast] at g3
  refine (sSeq_nx (sFor_at g3 e6)).trans ?_
  refine sRet_at ?_
  simp only [vBi, aCons, aNil, oVar, List.getElem?_cons_succ, List.getElem?_cons_zero, Option.bind_some, Option.map_some, rdAll, rd, slotD, biTuple]
  rfl
end IPL
end
section
set_option linter.all false
set_option maxRecDepth 20000
namespace IPL
open IP
open PySem (PyData)
theorem vCallRp_at {c : Fnc} {i : Nat} {f : Ea} {δ δ1 : Env} {os : List Opd} {ds xs ys : List D} {r : Res} (h0 : ownAt δ i = true) (h1 : f δ = some (os, δ1)) (hv : vals os = some ds) (h2 : δ1[i]? = some (.prm xs)) (h3 : c (some xs) ds = some (r, some ys)) : vCallR c i f δ = some (r, δ1.set i (.prm ys)) := by
  simp only [vCallR, h0, if_true, h1, Option.bind_some, hv, h2, h3]
theorem vCallV_at {c : Fnc} {f : Eo} {δ δ1 : Env} {x : D} {r : Res} (h1 : f δ = some (.val x, δ1)) (h3 : c none [x] = some (r, none)) : vCall c (aCons f aNil) δ = some (r, δ1) :=
  vCall_at (aCons_at h1 aNil_at) rfl rfl h3
theorem I_poly (n : Nat) {ns : List Int} {xs : List D} (h : RowOk ns xs) {p m : Int} (hp : isPrime p) (hm0 : 0 ≤ m) (hm : m < 1000) : ∃ a xs', run (n + 3) "_law_poly" (some xs) [.int p, .int m] = some (.dat (iT (trim a)), some xs') ∧ nums p a ∧ (a.length : Int) ≤ m + 1 ∧ RowOk ns xs' := by
  obtain ⟨a, xs1, e1, hn, hl, hx⟩ := I_row n h hp (m := m + 1) (by omega) (by omega)
  refine ⟨a, xs1, ?_, hn, hl, hx⟩
  rw [run__law_poly]
  refine fn_ref (δ := [.prm xs1, .dat (.int p), .dat (.int m)]) rfl rfl ?_ rfl
  have g1 : vCallR (run (n + 2) "_law_row") 0 (aCons (oVar 1) (aCons (oV (fBin bAdd (oVar 2) (oV (vC (.int 1))))) aNil)) [.prm xs, .dat (.int p), .dat (.int m)] = some (.dat (iT a), [.prm xs1, .dat (.int p), .dat (.int m)]) :=
    vCallRp_at rfl (aCons_at (oVar_dat (d := .int p) rfl) (aCons_at (oV_at (add_at (oVar_dat (d := .int m) rfl) vC_at)) aNil_at)) rfl rfl e1
  exact sRet_at (vCallV_at (oV_at g1) (I_law_trim (n + 1) (.inl rfl) (by omega)))
theorem I_alike_tup (n : Nat) (xs : List D) (hl : xs.length ≤ 1000) (hx : ∀ d ∈ xs, run (n + 1) "_law_alike" none [d, d] = some (.dat (.bool true), none)) : run (n + 2) "_law_alike" none [.tuple xs, .tuple xs] = some (.dat (.bool true), none) := by
  have hr : (rangeD 0 ((xs.length : Int)).toNat).length = xs.length := by simp [rangeD]
  have e1 : lcGo [2] (.nm 2) (tNot (tV (oV (vCall (run (n + 1) "_law_alike") (aCons (oV (fBin bIx (oVar 0) (oVar 2))) (aCons (oV (fBin bIx (oVar 1) (oVar 2))) aNil)))))) (vVar 2) (rangeD 0 ((xs.length : Int)).toNat) none (rangeD 0 ((xs.length : Int)).toNat) [.dat (.tuple xs), .dat (.tuple xs), .un] = some ([], [.dat (.tuple xs), .dat (.tuple xs), .un]) := by
    have h := lcGo_pure (vs := [2]) (g := .nm 2) (t := tNot (tV (oV (vCall (run (n + 1) "_law_alike") (aCons (oV (fBin bIx (oVar 0) (oVar 2))) (aCons (oV (fBin bIx (oVar 1) (oVar 2))) aNil)))))) (e := vVar 2) (src := rangeD 0 ((xs.length : Int)).toNat) (ow := none) (δ := [.dat (.tuple xs), .dat (.tuple xs), .un]) (fun (k : Nat) => .int ((k : Int))) (fun _ => none) rfl (List.range xs.length) (by
      intro k hk
      have hk' := List.mem_range.mp hk
      have f1 : IP.ixN xs.length (k : Int) = some k := ixN_nat hk'
      have f2 : xs[k]? = some xs[k] := List.getElem?_eq_getElem hk'
      have f3 := hx xs[k] (List.getElem_mem hk')
      have f4 : atD xs (k : Int) = some xs[k] := by
        unfold atD
        rw [f1]
        exact f2
      simp [f4, f3])
    rw [show (List.range xs.length).map (fun (k : Nat) => PyData.int ((k : Int))) = rangeD 0 ((xs.length : Int)).toNat by simp [rangeD]] at h
    rw [h, List.filterMap_eq_nil_iff.mpr fun _ _ => rfl]
  have f1 := vLc_at (δ := [.dat (.tuple xs), .dat (.tuple xs), .un]) (iRange1_at (f := oV (vBi biLen (aCons (oVar 1) aNil))) (δ1 := [.dat (.tuple xs), .dat (.tuple xs), .un]) (j := xs.length) (by simp) (by omega)) (vs := [2]) (δ2 := [.dat (.tuple xs), .dat (.tuple xs), .un]) rfl (by rw [hr]; show xs.length ≤ 16000000; omega) e1
  rw [run__law_alike]
  refine fn_val (δ := [.dat (.tuple xs), .dat (.tuple xs), .un]) rfl rfl ?_
  show sSeq (sIf _ (sSeq _ (sSeq _ (sRet _))) _) _ [.dat (.tuple xs), .dat (.tuple xs), .un] = _
  refine sSeq_rt ?_
  rw [sIf_t (δ1 := [.dat (.tuple xs), .dat (.tuple xs), .un]) (by simp)]
  rw [sSeq_nx (δ1 := [.dat (.tuple xs), .dat (.tuple xs), .un]) (by rw [sIf_f (δ1 := [.dat (.tuple xs), .dat (.tuple xs), .un]) (by simp)]; rfl)]
  rw [sSeq_nx (δ1 := [.dat (.tuple xs), .dat (.tuple xs), .un]) (by rw [sIf_f (δ1 := [.dat (.tuple xs), .dat (.tuple xs), .un]) (by simp)]; rfl)]
  refine sRet_at ?_
  exact fBin_at (oV_at f1) (y := .list []) rfl (by simp)
theorem lc_none {δ : Env} {i v : Nat} {xs : List Int} {t : Et} {e : Ev} (hi : δ[i]? = some (.dat (iT xs))) (hv : δ[v]? = some .un) (he : ∀ x ∈ xs, t (δ.set v (.dat (.int x))) = some (false, δ.set v (.dat (.int x)))) (hl : xs.length ≤ 1000) : vLc [v] (iE (oVar i)) (.nm v) t e δ = some (.new [], δ) := by
  have vl : v < δ.length := by
    rcases Nat.lt_or_ge v δ.length with h | h
    · exact h
    · rw [List.getElem?_eq_none h] at hv
      cases hv
  have h1 : iE (oVar i) δ = some ((xs.map .int, none), δ) := by
    simp only [iE, oVar_dat hi, Option.bind_some, rd, itemsOf, Option.map_some, own?]
  have h4 := lcGo_pure (vs := [v]) (g := .nm v) (t := t) (e := e) (src := xs.map .int) (ow := none) (δ := δ) PyData.int (fun _ => none) rfl xs (by
    intro x hx
    have gp : (Tg.nm v).put (.int x) δ = some (δ.set v (.dat (.int x))) := by simp only [Tg.put, setSlot, hv]
    have g4 : (δ.set v (.dat (.int x)))[v]? = some (.dat (.int x)) := by simp [vl]
    have g5 : (δ.set v (.dat (.int x))).set v .un = δ := by rw [List.set_set, set_self δ v _ hv]
    unfold lcTurn
    rw [gp, Option.bind_some, he x hx, Option.bind_some, if_neg (by simp)]
    simp only [unAll, g4, g5, Option.map_some])
  rw [List.filterMap_eq_nil_iff.mpr fun _ _ => rfl] at h4
  have := vLc_at h1 (by simp only [unAll, hv]) (by rw [List.length_map]; show xs.length ≤ 16000000; omega) h4
  rw [this]
  have f2 : backAll δ [v] δ = δ := by simp only [backAll, hv, set_self δ v _ hv]
  rw [f2]
theorem I_is_poly (n : Nat) {p : Int} {xs : List Int} (h : nums p xs) (hl : xs.length ≤ 1000) (hp : polyL xs) : run (n + 1) "_law_is_poly" none [.int p, iT xs] = some (.dat (.bool true), none) := by
  rw [run__law_is_poly]
  have g1 : tNot (tV (oV (fUn (uIs [.tuple]) (oVar 1)))) [.dat (.int p), .dat (iT xs), .un, .un] = some (false, [.dat (.int p), .dat (iT xs), .un, .un]) := by simp
  have g2 : fSl (oVar 1) (pSo (oV (fUn uNeg (oV (vC (.int 1)))))) pNo [.dat (.int p), .dat (iT xs), .un, .un] = some (.dat (iT (xs.drop (xs.length - 1))), [.dat (.int p), .dat (iT xs), .un, .un]) := by
    have := cut_last xs
    simp only [fSl, oVar, pNo, pSo, fUn, oV, vC, uNeg, List.getElem?_cons_succ, List.getElem?_cons_zero, Option.bind_some, Option.map_some, rd, Res.toD, slotD, this]
  have g3 : oV (vTup (aCons (oV (vC (.int 0))) aNil)) [.dat (.int p), .dat (iT xs), .un, .un] = some (.val (iT [0]), [.dat (.int p), .dat (iT xs), .un, .un]) := oV_at (vTup1_at vC_at)
  have g4 : bEq (iT (xs.drop (xs.length - 1))) (iT [0]) = some (.dat (.bool false)) := by
    rw [bEq, if_pos ⟨shaped_row _, shaped_row _⟩, eqv_row]
    congr 3
    apply decide_eq_false
    intro h
    rcases hp with rfl | hp
    · simp at h
    · by_cases hl : 0 < xs.length
      · rw [drop_last hl] at h
        exact hp (by simpa using h)
      · have : xs = [] := List.length_eq_zero_iff.mp (by omega)
        subst this
        simp at h
  have g5 := lc_none (δ := [.dat (.int p), .dat (iT xs), .un, .un]) (i := 1) (v := 3) (xs := xs) (t := tOr (tNot (tV (oV (fUn (uIs [.int]) (oVar 3))))) (tV (oV (fUn (uIs [.bool]) (oVar 3))))) (e := vVar 3) rfl rfl (fun x hx => by simp) hl
  have g6 := lc_none (δ := [.dat (.int p), .dat (iT xs), .own [], .un]) (i := 1) (v := 3) (xs := xs) (t := tNot (tB (vChain bLe bLt (oV (vC (.int 0))) (oVar 3) (oVar 0)))) (e := vVar 3) rfl rfl (fun x hx => by
    have := h x hx
    simp [this.1, this.2]) hl
  refine fnV (δ := [.dat (.int p), .dat (iT xs), .own [], .un]) (δ0 := [.dat (.int p), .dat (iT xs), .un, .un]) rfl rfl rfl rfl ?_
  refine (sSeq_nx (sIf_f (tOr_ff g1 (tB_at (fBin_at (oV_at g2) g3 g4))))).trans ?_
  refine (sSeq_nx (sSet_at g5 (δ2 := [.dat (.int p), .dat (iT xs), .own [], .un]) rfl)).trans ?_
  refine sRet_at ?_
  have g7 : fBin bEq (oVar 2) (oV (vLst aNil)) [.dat (.int p), .dat (iT xs), .own [], .un] = some (.dat (.bool true), [.dat (.int p), .dat (iT xs), .own [], .un]) := by simp [line]
  have g8 : fBin bEq (oV (vLc [3] (iE (oVar 1)) (.nm 3) (tNot (tB (vChain bLe bLt (oV (vC (.int 0))) (oVar 3) (oVar 0)))) (vVar 3))) (oV (vLst aNil)) [.dat (.int p), .dat (iT xs), .own [], .un] = some (.dat (.bool true), [.dat (.int p), .dat (iT xs), .own [], .un]) :=
    fBin_at (oV_at g6) (y := .list []) (δ2 := [.dat (.int p), .dat (iT xs), .own [], .un]) (by simp [line]) (by simp)
  rw [vAnd, g7, Option.bind_some]
  exact g8
theorem sPar2_at {i j : Nat} {f g : Ev} {δ δ1 δ2 δ3 δ4 : Env} {r1 r2 : Res} (h1 : f δ = some (r1, δ1)) (h2 : g δ1 = some (r2, δ2)) (h3 : setSlot δ2 i (slotOf r1) = some δ3) (h4 : setSlot δ3 j (slotOf r2) = some δ4) : sPar [i, j] [f, g] δ = some (.nx, δ4) := by
  simp only [sPar, pEvs, h1, h2, Option.bind_some, Option.map_some, setRs, h3, h4]
theorem mul_nums {p : Int} (h0 : 0 < p) (a b : List Int) : nums p (mul p a b) := by
  apply trim_nums
  intro x hx
  obtain ⟨i, _, rfl⟩ := List.mem_map.mp hx
  exact ⟨Int.emod_nonneg _ (by omega), Int.emod_lt_of_pos _ h0⟩
theorem lowL_nums {p : Int} (h0 : 2 ≤ p) (ts : List Int) : nums p (lowL p ts) := by
  intro x hx
  rcases List.mem_cons.mp hx with rfl | hx
  · omega
  · obtain ⟨t, _, rfl⟩ := List.mem_map.mp hx
    exact ⟨Int.emod_nonneg _ (by omega), Int.emod_lt_of_pos _ (by omega)⟩
theorem above_same (p : Int) (low st : List Int) (L : Nat) : trim ((mul p low (trim st)).take L) = trim ((mul p st low).take L) := by
  apply trim_ext
  intro i
  rw [getD_take, getD_take, mul_getD, mul_getD, cv_comm, cv_ext (a' := st) (b' := low) (fun i => trim_getD st i) (fun _ => rfl)]
theorem back_same {p : Int} {above low : List Int} {sc : Int} (h0 : 0 < p) (ha : nums p above) (hs : low.getD 0 0 * sc % p = 1 % p) (c : Nat) : trim ((mul p (trim (exN p above low sc c)) low).take c) = trim (above.take c) := by
  apply trim_ext
  intro i
  rw [getD_take, getD_take]
  by_cases hi : i < c
  · rw [if_pos hi, if_pos hi, mul_getD, cv_comm, cv_ext (a' := low) (b' := exN p above low sc c) (fun _ => rfl) (fun i => trim_getD _ i), cv_ex h0 hs c i hi]
    exact emod_small (nums_getD h0 ha i)
  · rw [if_neg hi, if_neg hi]
end IPL
end
section
set_option linter.all false
set_option maxRecDepth 20000
namespace IPL
open IP
open PySem (PyData)
theorem law_run_true (n : Nat) (hn : 0 < n) (ns : List Int) : run (n + 6) "law" none [scr ns] = some (.dat (.bool true), none) := by
  have hx0 : RowOk ns [scr ns, .int 0, .int 5005, .int 0] := ⟨0, 5005, 0, rfl, by decide⟩
  have g1 : vLst (aCons (oVar 0) (aCons (oV (vC (.int 0))) (aCons (oV (vC (.int 5005))) (aCons (oV (vC (.int 0))) aNil)))) [.dat (scr ns), .un, .un, .un, .un, .un, .un, .un, .un, .un, .un] = some (.new [scr ns, .int 0, .int 5005, .int 0], [.dat (scr ns), .un, .un, .un, .un, .un, .un, .un, .un, .un, .un]) := by
    simp [line]
  obtain ⟨p, x1, e2, hp, hx1⟩ := I_prime (n + 2) hx0
  have pp := prime_pos hp
  have p0 : 0 < p := by omega
  have g2 : vCallR (run (n + 5) "_law_prime") 1 aNil [.dat (scr ns), .own [scr ns, .int 0, .int 5005, .int 0], .un, .un, .un, .un, .un, .un, .un, .un, .un] = some (.dat (.int p), [.dat (scr ns), .own x1, .un, .un, .un, .un, .un, .un, .un, .un, .un]) := vCallR_at rfl aNil_at rfl rfl e2
  obtain ⟨v3, x2, e3, hv3, hx2⟩ := pick3_at (n + 4) (xs := x1) (δ := [.dat (scr ns), .own x1, .dat (.int p), .un, .un, .un, .un, .un, .un, .un, .un]) rfl hx1 3 8 30
  obtain ⟨ts, st, x3, e4, ht, hs, hl, hlm, hx3⟩ := I_taps (n + 3) hx2 hp (m := v3) (by omega) (by omega)
  have hl2 : ts.length ≤ 30 := by omega
  have g3 : vCallR (run (n + 5) "_law_taps") 1 (aCons (oVar 2) (aCons (oV (pick3 (n + 4) 3 8 30)) aNil)) [.dat (scr ns), .own x1, .dat (.int p), .un, .un, .un, .un, .un, .un, .un, .un] = some (.dat (.tuple [iT ts, iT st]), [.dat (scr ns), .own x3, .dat (.int p), .un, .un, .un, .un, .un, .un, .un, .un]) :=
    vCallR_at (δ1 := [.dat (scr ns), .own x2, .dat (.int p), .un, .un, .un, .un, .un, .un, .un, .un]) rfl (aCons_at (oVar_dat (d := .int p) rfl) (aCons_at (oV_at e3) aNil_at)) rfl rfl e4
  -- low and above
  have e5 := lc_ints (δ := [.dat (scr ns), .own x3, .dat (.int p), .dat (iT ts), .dat (iT st), .un, .un, .un, .un, .un, .un]) (i := 3) (v := 10) (xs := ts) (e := fBin bMod (oV (vBi biInt (aCons (oV (fBin bSub (oV (vC (.int 0))) (oVar 10))) aNil))) (oVar 2)) (f := fun t => (0 - t) % p) rfl rfl (by
    intro x hx
    exact mod_at (oV_at (int_at (sub_at (δ := [.dat (scr ns), .own x3, .dat (.int p), .dat (iT ts), .dat (iT st), .un, .un, .un, .un, .un, .dat (.int x)]) (vC_at (d := .int 0)) (oVar_dat (d := .int x) rfl)))) (oVar_dat (i := 2) (d := .int p) rfl) p0) (by omega)
  have e6 := one_more e5 (by simp; omega) 1
  have e7 : (1 :: ts.map fun t => (0 - t) % p) = lowL p ts := by
    unfold lowL
    congr 1
    exact List.map_congr_left fun t _ => by rw [Int.zero_sub]
  rw [e7] at e6
  have hlow : (lowL p ts).length = ts.length + 1 := by simp [lowL]
  have g5 := vCallV_at (oV_at e6) (I_law_trim (n + 4) (xs := lowL p ts) (.inr rfl) (by omega))
  have hlowl := trim_le (lowL p ts)
  have hlown := trim_nums (lowL_nums pp.1 ts)
  have hlowp := trim_poly (lowL p ts)
  have hlow0 : (trim (lowL p ts)).getD 0 0 = 1 := by rw [trim_getD]; rfl
  have hab := above_same p (trim (lowL p ts)) st ts.length
  have e8 := I_fraction n hn hp ht hs hl (by omega)
  have e9 := ex_run hp hs hl (sc := 1) (ts := ts) rfl
  have hAn : nums p (trim ((mul p st (trim (lowL p ts))).take ts.length)) := trim_nums fun x hx => mul_nums p0 _ _ x (List.mem_of_mem_take hx)
  have hAp := trim_poly ((mul p st (trim (lowL p ts))).take ts.length)
  have hAl : (trim ((mul p st (trim (lowL p ts))).take ts.length)).length ≤ 30 := by
    have := trim_le ((mul p st (trim (lowL p ts))).take ts.length)
    rw [List.length_take] at this
    omega
  have e10 := I_law_trim (n + 4) (xs := st) (.inl rfl) (by omega)
  have hst := trim_le st
  have e11 := I_law_times (n + 3) (p := p) p0 (a := trim (lowL p ts)) (b := trim st) (fun i => by have := nums_getD p0 hlown i; omega) (by omega) (by omega)
  have e12 := I_law_trim (n + 4) (xs := (mul p (trim (lowL p ts)) (trim st)).take ts.length) (.inl rfl) (by rw [List.length_take]; omega)
  rw [hab] at e12
  generalize trim (lowL p ts) = low at *
  generalize trim ((mul p st low).take ts.length) = ab1 at *
  have g6 := vCallV_at (oV_at (cutV_hi (oV_at (vCall_at (aCons_at (oVar_dat (i := 2) (d := .int p) rfl) (aCons_at (oVar_dat (i := 5) (d := iT low) rfl) (aCons_at (oV_at (vCallV_at (oVar_dat (i := 4) (d := iT st) (δ := [.dat (scr ns), .own x3, .dat (.int p), .dat (iT ts), .dat (iT st), .dat (iT low), .un, .un, .un, .un, .un]) rfl) e10)) aNil_at))) rfl rfl e11)) (len_at (i := 3) (xs := ts) rfl))) e12
  have g7 := call3 (i := 2) (j := 3) (k := 4) (δ := [.dat (scr ns), .own x3, .dat (.int p), .dat (iT ts), .dat (iT st), .dat (iT low), .dat (iT ab1), .un, .un, .un, .un]) rfl rfl rfl e8
  have g8 := vTup2_at (f := oVar 6) (g := oVar 5) (δ := [.dat (scr ns), .own x3, .dat (.int p), .dat (iT ts), .dat (iT st), .dat (iT low), .dat (iT ab1), .un, .un, .un, .un]) (oVar_dat (d := iT ab1) rfl) (oVar_dat (d := iT low) rfl)
  have g9 := tNotV_at (call2 (oV_at g7) (oV_at g8) (I_alike_tup (n + 3) [iT ab1, iT low] (by simp) (by
    intro d hd
    simp only [List.mem_cons, List.not_mem_nil, or_false] at hd
    rcases hd with rfl | rfl
    · exact I_alike_row (n + 2) _ (by omega)
    · exact I_alike_row (n + 2) _ (by omega))))
  -- the count, the series
  obtain ⟨c', x4, g10, hc', hx4⟩ := draw_at (n + 4) (i := 1) (δ := [.dat (scr ns), .own x3, .dat (.int p), .dat (iT ts), .dat (iT st), .dat (iT low), .dat (iT ab1), .un, .un, .un, .un]) (f := oV (vC (.int 80))) (m := 80) rfl vC_at rfl hx3 (by decide) (by decide)
  obtain ⟨c, rfl⟩ : ∃ c : Nat, (c : Int) = c' := ⟨c'.toNat, by omega⟩
  have hc : c ≤ 400 := by omega
  obtain ⟨sc, e13, s1, s2, s3⟩ := I_expansion (n + 1) hp hAn (by omega) hAp hlown (by omega) hlowp (by rw [hlow0]; decide) c hc
  have hsc : sc = 1 := by
    rw [hlow0, Int.one_mul, emod_small ⟨by omega, s2⟩] at s3
    exact s3
  subst hsc
  rw [e9] at e13
  have e14 := I_law_run (n + 4) hp ht hl (by omega) c hc
  have hfl := firstN_length p hl c
  have g11 := call4 (i := 2) (j := 6) (k := 5) (l := 7) (δ := [.dat (scr ns), .own x4, .dat (.int p), .dat (iT ts), .dat (iT st), .dat (iT low), .dat (iT ab1), .dat (.int c), .un, .un, .un]) rfl rfl rfl rfl e13
  have g12 := call4 (i := 2) (j := 3) (k := 4) (l := 7) (δ := [.dat (scr ns), .own x4, .dat (.int p), .dat (iT ts), .dat (iT st), .dat (iT low), .dat (iT ab1), .dat (.int c), .un, .un, .un]) rfl rfl rfl rfl e14
  have g13 := tNotV_at (call2 (oV_at g11) (oV_at g12) (I_alike_row (n + 3) _ (by omega)))
  -- another fraction
  obtain ⟨a2, x5, e15, ha2, ha2l, hx5⟩ := I_poly (n + 2) hx4 hp (m := 12) (by decide) (by decide)
  have g14 : vCallR (run (n + 5) "_law_poly") 1 (aCons (oVar 2) (aCons (oV (vC (.int 12))) aNil)) [.dat (scr ns), .own x4, .dat (.int p), .dat (iT ts), .dat (iT st), .dat (iT low), .dat (iT ab1), .dat (.int c), .un, .un, .un] = some (.dat (iT (trim a2)), [.dat (scr ns), .own x5, .dat (.int p), .dat (iT ts), .dat (iT st), .dat (iT low), .dat (iT ab1), .dat (.int c), .un, .un, .un]) := vCallR_at rfl (aCons_at (oVar_dat (d := .int p) rfl) (aCons_at vC_at aNil_at)) rfl rfl e15
  obtain ⟨r, x6, e16, hr, hx6⟩ := draw_at (n + 4) (i := 1) (δ := [.dat (scr ns), .own x5, .dat (.int p), .dat (iT ts), .dat (iT st), .dat (iT low), .dat (iT ab1), .dat (.int c), .un, .un, .un]) rfl (oV_at (sub_at (oVar_dat (i := 2) (d := .int p) rfl) (vC_at (d := .int 1)))) rfl hx5 (by omega) (by omega)
  obtain ⟨lo, x7, e17, hlo, hlol, hx7⟩ := I_row (n + 3) hx6 hp (m := 10) (by decide) (by decide)
  have g17 : vCallR (run (n + 5) "_law_row") 1 (aCons (oVar 2) (aCons (oV (vC (.int 10))) aNil)) [.dat (scr ns), .own x6, .dat (.int p), .dat (iT ts), .dat (iT st), .dat (iT low), .dat (iT ab1), .dat (.int c), .un, .un, .un] = some (.dat (iT lo), [.dat (scr ns), .own x7, .dat (.int p), .dat (iT ts), .dat (iT st), .dat (iT low), .dat (iT ab1), .dat (.int c), .un, .un, .un]) := vCallR_at rfl (aCons_at (oVar_dat (d := .int p) rfl) (aCons_at vC_at aNil_at)) rfl rfl e17
  have g18 := add_rows (oV_at (vTup1_at (oV_at (add_at (vC_at (d := .int 1)) (oV_at e16))))) (oV_at g17) (by show 1 + lo.length ≤ 1000; omega)
  have hlL : ([1 + r] ++ lo).length = lo.length + 1 := by simp
  have hln : nums p ([1 + r] ++ lo) := by
    intro y hy
    rcases List.mem_append.mp hy with hy | hy
    · rw [List.mem_singleton.mp hy]; omega
    · exact hlo y hy
  have hl00 : ([1 + r] ++ lo).getD 0 0 = 1 + r := rfl
  generalize [1 + r] ++ lo = lw at *
  have e19 := I_law_trim (n + 4) (xs := lw) (.inl rfl) (by omega)
  have h20 := trim_le lw
  have h21 := trim_nums hln
  have h22 := trim_poly lw
  have h23 : (trim lw).getD 0 0 ≠ 0 := by rw [trim_getD, hl00]; omega
  have h24 := trim_le a2
  have h25 := trim_nums ha2
  have h26 := trim_poly a2
  generalize trim lw = low2 at *
  generalize trim a2 = ab2 at *
  obtain ⟨sc, e20, t1, t2, t3⟩ := I_expansion (n + 1) hp h25 (by omega) h26 h21 (by omega) h22 h23 c hc
  have hfl2 := exN_length p ab2 low2 sc c
  have hfn := exN_nums p0 ab2 low2 sc c
  have hback := back_same (low := low2) (sc := sc) p0 h25 (by rw [t3]; exact (emod_small ⟨by decide, by omega⟩).symm) c
  have e21 := I_law_trim (n + 4) (xs := exN p ab2 low2 sc c) (.inl rfl) (by omega)
  have h27 := trim_le (exN p ab2 low2 sc c)
  have e22 := I_is_poly (n + 4) (trim_nums hfn) (by omega) (trim_poly (exN p ab2 low2 sc c))
  have e23 := I_law_times (n + 3) (p := p) p0 (a := trim (exN p ab2 low2 sc c)) (b := low2) (fun i => by have := nums_getD p0 (trim_nums hfn) i; omega) (by omega) (by omega)
  have e24 := I_law_trim (n + 4) (xs := (mul p (trim (exN p ab2 low2 sc c)) low2).take c) (.inl rfl) (by rw [List.length_take]; omega)
  have e25 := I_law_trim (n + 4) (xs := ab2.take c) (.inl rfl) (by rw [List.length_take]; omega)
  rw [hback] at e24
  generalize exN p ab2 low2 sc c = ex at *
  generalize mul p (trim ex) low2 = pr at *
  generalize trim (ab2.take c) = last at *
  have g19 := vCallV_at (oVar_dat (i := 5) (d := iT lw) (δ := [.dat (scr ns), .own x7, .dat (.int p), .dat (iT ts), .dat (iT st), .dat (iT lw), .dat (iT ab2), .dat (.int c), .un, .un, .un]) rfl) e19
  have g20 := call4 (i := 2) (j := 6) (k := 5) (l := 7) (δ := [.dat (scr ns), .own x7, .dat (.int p), .dat (iT ts), .dat (iT st), .dat (iT low2), .dat (iT ab2), .dat (.int c), .un, .un, .un]) rfl rfl rfl rfl e20
  have g21 := vCallV_at (oVar_dat (i := 8) (d := iT ex) (δ := [.dat (scr ns), .own x7, .dat (.int p), .dat (iT ts), .dat (iT st), .dat (iT low2), .dat (iT ab2), .dat (.int c), .dat (iT ex), .un, .un]) rfl) e21
  have g22 := tB_at (neI_at (len_at (i := 8) (xs := ex) (δ := [.dat (scr ns), .own x7, .dat (.int p), .dat (iT ts), .dat (iT st), .dat (iT low2), .dat (iT ab2), .dat (.int c), .dat (iT ex), .un, .un]) rfl) (oVar_dat (i := 7) (d := .int c) rfl))
  rw [hfl2, show (!((c : Int) == (c : Int))) = false by simp] at g22
  have g23 := tOr_ff g22 (tNotV_at (call2 (oVar_dat (i := 2) (d := .int p) rfl) (oV_at g21) e22))
  have g24 := vCall_at (aCons_at (oVar_dat (i := 2) (d := .int p) (δ := [.dat (scr ns), .own x7, .dat (.int p), .dat (iT ts), .dat (iT st), .dat (iT low2), .dat (iT ab2), .dat (.int c), .dat (iT ex), .un, .un]) rfl) (aCons_at (oV_at g21) (aCons_at (oVar_dat (i := 5) (d := iT low2) rfl) aNil_at))) rfl rfl e23
  have g25 := vCallV_at (oV_at (cutV_hi (oVar_dat (i := 9) (d := iT pr) (δ := [.dat (scr ns), .own x7, .dat (.int p), .dat (iT ts), .dat (iT st), .dat (iT low2), .dat (iT ab2), .dat (.int c), .dat (iT ex), .dat (iT pr), .un]) rfl) (oVar_dat (i := 7) (d := .int c) rfl))) e24
  have g26 := vCallV_at (oV_at (cutV_hi (oVar_dat (i := 6) (d := iT ab2) (δ := [.dat (scr ns), .own x7, .dat (.int p), .dat (iT ts), .dat (iT st), .dat (iT low2), .dat (iT ab2), .dat (.int c), .dat (iT ex), .dat (iT pr), .un]) rfl) (oVar_dat (i := 7) (d := .int c) rfl))) e25
  have g27 : bEq (iT last) (iT last) = some (.dat (.bool true)) := by
    rw [bEq, if_pos ⟨shaped_row _, shaped_row _⟩, eqv_row, decide_eq_true rfl]
  -- put together
  rw [run_law]
  refine fnV (δ := [.dat (scr ns), .own x7, .dat (.int p), .dat (iT ts), .dat (iT st), .dat (iT low2), .dat (iT ab2), .dat (.int c), .dat (iT ex), .dat (iT pr), .un]) (δ0 := [.dat (scr ns), .un, .un, .un, .un, .un, .un, .un, .un, .un, .un]) rfl rfl rfl rfl ?_
  refine (sSeq_nx (sSet_at g1 (δ2 := [.dat (scr ns), .own [scr ns, .int 0, .int 5005, .int 0], .un, .un, .un, .un, .un, .un, .un, .un, .un]) rfl)).trans ?_
  refine (sSeq_nx (sSet_at g2 (δ2 := [.dat (scr ns), .own x1, .dat (.int p), .un, .un, .un, .un, .un, .un, .un, .un]) rfl)).trans ?_
  refine (sSeq_nx (sUnp_at g3 (δ2 := [.dat (scr ns), .own x3, .dat (.int p), .dat (iT ts), .dat (iT st), .un, .un, .un, .un, .un, .un]) rfl)).trans ?_
  refine (sSeq_nx (sSet_at g5 (δ2 := [.dat (scr ns), .own x3, .dat (.int p), .dat (iT ts), .dat (iT st), .dat (iT low), .un, .un, .un, .un, .un]) rfl)).trans ?_
  refine (sSeq_nx (sSet_at g6 (δ2 := [.dat (scr ns), .own x3, .dat (.int p), .dat (iT ts), .dat (iT st), .dat (iT low), .dat (iT ab1), .un, .un, .un, .un]) rfl)).trans ?_
  refine (sSeq_nx (sIf_f g9)).trans ?_
  refine (sSeq_nx (sSet_at g10 (δ2 := [.dat (scr ns), .own x4, .dat (.int p), .dat (iT ts), .dat (iT st), .dat (iT low), .dat (iT ab1), .dat (.int c), .un, .un, .un]) rfl)).trans ?_
  refine (sSeq_nx (sIf_f g13)).trans ?_
  refine (sSeq_nx (sPar2_at g14 g18 (δ3 := [.dat (scr ns), .own x7, .dat (.int p), .dat (iT ts), .dat (iT st), .dat (iT low), .dat (iT ab2), .dat (.int c), .un, .un, .un]) (δ4 := [.dat (scr ns), .own x7, .dat (.int p), .dat (iT ts), .dat (iT st), .dat (iT lw), .dat (iT ab2), .dat (.int c), .un, .un, .un]) rfl rfl)).trans ?_
  refine (sSeq_nx (sSet_at g19 (δ2 := [.dat (scr ns), .own x7, .dat (.int p), .dat (iT ts), .dat (iT st), .dat (iT low2), .dat (iT ab2), .dat (.int c), .un, .un, .un]) rfl)).trans ?_
  refine (sSeq_nx (sSet_at g20 (δ2 := [.dat (scr ns), .own x7, .dat (.int p), .dat (iT ts), .dat (iT st), .dat (iT low2), .dat (iT ab2), .dat (.int c), .dat (iT ex), .un, .un]) rfl)).trans ?_
  refine (sSeq_nx (sIf_f g23)).trans ?_
  refine (sSeq_nx (sSet_at g24 (δ2 := [.dat (scr ns), .own x7, .dat (.int p), .dat (iT ts), .dat (iT st), .dat (iT low2), .dat (iT ab2), .dat (.int c), .dat (iT ex), .dat (iT pr), .un]) rfl)).trans ?_
  exact sRet_at (fBin_at (oV_at g25) (oV_at g26) g27)
theorem law_true (ns : List Int) (_ : ns.length ≤ 63) : run 30 "law" none [scr ns] = some (.dat (.bool true), none) := law_run_true 24 (by decide) ns
end IPL
end
section
set_option Elab.async false
set_option linter.all false
set_option maxRecDepth 100000
set_option maxHeartbeats 1000000
namespace IPL
open PySem PySem.Spec PyProof.Rows L2 IP
def topS (i : Nat) : Stmt := PySem.Challenge.pw_taprows_k05_whole_fractions.main.body.getD i (.Pass ⟨0, 0, 0, 0⟩)
theorem b_all : bootBuiltins "all" = some (.builtin "all") := by decide +kernel
theorem b_bool : bootBuiltins "bool" = some (.type "bool") := by decide +kernel
theorem b_int : bootBuiltins "int" = some (.type "int") := by decide +kernel
theorem b_isinstance : bootBuiltins "isinstance" = some (.builtin "isinstance") := by decide +kernel
theorem b_len : bootBuiltins "len" = some (.builtin "len") := by decide +kernel
theorem b_list : bootBuiltins "list" = some (.type "list") := by decide +kernel
theorem b_min : bootBuiltins "min" = some (.builtin "min") := by decide +kernel
theorem b_str : bootBuiltins "str" = some (.type "str") := by decide +kernel
theorem b_sum : bootBuiltins "sum" = some (.builtin "sum") := by decide +kernel
theorem b_tuple : bootBuiltins "tuple" = some (.type "tuple") := by decide +kernel
abbrev N_inverse : List Str := ["prime", "number", "other"]
abbrev P_inverse : List Str := ["prime", "number"]
theorem sc_inverse : FnScope N_inverse P_inverse (defScope (topS 9)) := ⟨rfl, rfl, rfl, by decide +kernel, rfl, by decide +kernel, by decide +kernel⟩
abbrev N_is_between : List Str := ["value", "least", "most"]
abbrev P_is_between : List Str := ["value", "least", "most"]
theorem sc_is_between : FnScope N_is_between P_is_between (defScope (topS 15)) := ⟨rfl, rfl, rfl, by decide +kernel, rfl, by decide +kernel, by decide +kernel⟩
abbrev N_are_numbers : List Str := ["prime", "value", "most", "number"]
abbrev P_are_numbers : List Str := ["prime", "value", "most"]
theorem sc_are_numbers : FnScope N_are_numbers P_are_numbers (defScope (topS 16)) := ⟨rfl, rfl, rfl, by decide +kernel, rfl, by decide +kernel, by decide +kernel⟩
abbrev N_check_prime : List Str := ["value"]
abbrev P_check_prime : List Str := ["value"]
theorem sc_check_prime : FnScope N_check_prime P_check_prime (defScope (topS 17)) := ⟨rfl, rfl, rfl, by decide +kernel, rfl, by decide +kernel, by decide +kernel⟩
abbrev N_check_number : List Str := ["value", "least", "most"]
abbrev P_check_number : List Str := ["value", "least", "most"]
theorem sc_check_number : FnScope N_check_number P_check_number (defScope (topS 18)) := ⟨rfl, rfl, rfl, by decide +kernel, rfl, by decide +kernel, by decide +kernel⟩
abbrev N_check_polynomial : List Str := ["prime", "value"]
abbrev P_check_polynomial : List Str := ["prime", "value"]
theorem sc_check_polynomial : FnScope N_check_polynomial P_check_polynomial (defScope (topS 19)) := ⟨rfl, rfl, rfl, by decide +kernel, rfl, by decide +kernel, by decide +kernel⟩
abbrev N_check_taps : List Str := ["prime", "value"]
abbrev P_check_taps : List Str := ["prime", "value"]
theorem sc_check_taps : FnScope N_check_taps P_check_taps (defScope (topS 20)) := ⟨rfl, rfl, rfl, by decide +kernel, rfl, by decide +kernel, by decide +kernel⟩
abbrev N_are_so_many : List Str := ["prime", "value", "size"]
abbrev P_are_so_many : List Str := ["prime", "value", "size"]
theorem sc_are_so_many : FnScope N_are_so_many P_are_so_many (defScope (topS 21)) := ⟨rfl, rfl, rfl, by decide +kernel, rfl, by decide +kernel, by decide +kernel⟩
abbrev N_check_start : List Str := ["prime", "taps", "value"]
abbrev P_check_start : List Str := ["prime", "taps", "value"]
theorem sc_check_start : FnScope N_check_start P_check_start (defScope (topS 22)) := ⟨rfl, rfl, rfl, by decide +kernel, rfl, by decide +kernel, by decide +kernel⟩
abbrev N_check_wired : List Str := ["prime", "taps", "start"]
abbrev P_check_wired : List Str := ["prime", "taps", "start"]
theorem sc_check_wired : FnScope N_check_wired P_check_wired (defScope (topS 23)) := ⟨rfl, rfl, rfl, by decide +kernel, rfl, by decide +kernel, by decide +kernel⟩
abbrev N_trimmed : List Str := ["numbers", "end"]
abbrev P_trimmed : List Str := ["numbers"]
theorem sc_trimmed : FnScope N_trimmed P_trimmed (defScope (topS 25)) := ⟨rfl, rfl, rfl, by decide +kernel, rfl, by decide +kernel, by decide +kernel⟩
abbrev N_product_of : List Str := ["prime", "a", "b", "numbers", "low", "left", "high", "right", "number"]
abbrev P_product_of : List Str := ["prime", "a", "b"]
theorem sc_product_of : FnScope N_product_of P_product_of (defScope (topS 26)) := ⟨rfl, rfl, rfl, by decide +kernel, rfl, by decide +kernel, by decide +kernel⟩
abbrev N_low_of : List Str := ["prime", "taps", "tap"]
abbrev P_low_of : List Str := ["prime", "taps"]
theorem sc_low_of : FnScope N_low_of P_low_of (defScope (topS 28)) := ⟨rfl, rfl, rfl, by decide +kernel, rfl, by decide +kernel, by decide +kernel⟩
abbrev N_fraction : List Str := ["prime", "taps", "start", "low", "above"]
abbrev P_fraction : List Str := ["prime", "taps", "start"]
theorem sc_fraction : FnScope N_fraction P_fraction (defScope (topS 30)) := ⟨rfl, rfl, rfl, by decide +kernel, rfl, by decide +kernel, by decide +kernel⟩
abbrev N_expansion : List Str := ["prime", "above", "low", "count", "scale", "row", "at", "number", "taken", "back"]
abbrev P_expansion : List Str := ["prime", "above", "low", "count"]
theorem sc_expansion : FnScope N_expansion P_expansion (defScope (topS 31)) := ⟨rfl, rfl, rfl, by decide +kernel, rfl, by decide +kernel, by decide +kernel⟩
abbrev N__law_taken : List Str := ["row", "many", "found", "cell"]
abbrev P__law_taken : List Str := ["row", "many"]
theorem sc__law_taken : FnScope N__law_taken P__law_taken (defScope (topS 33)) := ⟨rfl, rfl, rfl, by decide +kernel, rfl, by decide +kernel, by decide +kernel⟩
abbrev N__law_pick : List Str := ["row", "things"]
abbrev P__law_pick : List Str := ["row", "things"]
theorem sc__law_pick : FnScope N__law_pick P__law_pick (defScope (topS 34)) := ⟨rfl, rfl, rfl, by decide +kernel, rfl, by decide +kernel, by decide +kernel⟩
abbrev N__law_prime : List Str := ["row"]
abbrev P__law_prime : List Str := ["row"]
theorem sc__law_prime : FnScope N__law_prime P__law_prime (defScope (topS 35)) := ⟨rfl, rfl, rfl, by decide +kernel, rfl, by decide +kernel, by decide +kernel⟩
abbrev N__law_taps : List Str := ["row", "prime", "most", "size", "taps", "at"]
abbrev P__law_taps : List Str := ["row", "prime", "most"]
theorem sc__law_taps : FnScope N__law_taps P__law_taps (defScope (topS 36)) := ⟨rfl, rfl, rfl, by decide +kernel, rfl, by decide +kernel, by decide +kernel⟩
abbrev N__law_trim : List Str := ["some", "found", "turn"]
abbrev P__law_trim : List Str := ["some"]
theorem sc__law_trim : FnScope N__law_trim P__law_trim (defScope (topS 37)) := ⟨rfl, rfl, rfl, by decide +kernel, rfl, by decide +kernel, by decide +kernel⟩
abbrev N__law_times : List Str := ["prime", "a", "b", "found", "at", "to"]
abbrev P__law_times : List Str := ["prime", "a", "b"]
theorem sc__law_times : FnScope N__law_times P__law_times (defScope (topS 38)) := ⟨rfl, rfl, rfl, by decide +kernel, rfl, by decide +kernel, by decide +kernel⟩
abbrev N__law_alike : List Str := ["found", "due", "k"]
abbrev P__law_alike : List Str := ["found", "due"]
theorem sc__law_alike : FnScope N__law_alike P__law_alike (defScope (topS 39)) := ⟨rfl, rfl, rfl, by decide +kernel, rfl, by decide +kernel, by decide +kernel⟩
abbrev N__law_run : List Str := ["prime", "taps", "start", "count", "found", "at", "k"]
abbrev P__law_run : List Str := ["prime", "taps", "start", "count"]
theorem sc__law_run : FnScope N__law_run P__law_run (defScope (topS 40)) := ⟨rfl, rfl, rfl, by decide +kernel, rfl, by decide +kernel, by decide +kernel⟩
abbrev N__law_row : List Str := ["row", "prime", "most", "at"]
abbrev P__law_row : List Str := ["row", "prime", "most"]
theorem sc__law_row : FnScope N__law_row P__law_row (defScope (topS 41)) := ⟨rfl, rfl, rfl, by decide +kernel, rfl, by decide +kernel, by decide +kernel⟩
abbrev N__law_poly : List Str := ["row", "prime", "most"]
abbrev P__law_poly : List Str := ["row", "prime", "most"]
theorem sc__law_poly : FnScope N__law_poly P__law_poly (defScope (topS 42)) := ⟨rfl, rfl, rfl, by decide +kernel, rfl, by decide +kernel, by decide +kernel⟩
abbrev N__law_is_poly : List Str := ["prime", "value", "wrong", "entry"]
abbrev P__law_is_poly : List Str := ["prime", "value"]
theorem sc__law_is_poly : FnScope N__law_is_poly P__law_is_poly (defScope (topS 43)) := ⟨rfl, rfl, rfl, by decide +kernel, rfl, by decide +kernel, by decide +kernel⟩
abbrev N_law : List Str := ["script", "row", "prime", "taps", "start", "low", "above", "count", "found", "product", "tap"]
abbrev P_law : List Str := ["script"]
theorem sc_law : FnScope N_law P_law (defScope (topS 44)) := ⟨rfl, rfl, rfl, by decide +kernel, rfl, by decide +kernel, by decide +kernel⟩
structure Tx (K : PySem.W.Frag) (mg : Str → Option Value) (fd : Nat → FuncData) : Prop where
  m_all : mg "all" = none
  m_bool : mg "bool" = none
  m_enumerate : mg "enumerate" = none
  m_int : mg "int" = none
  m_isinstance : mg "isinstance" = none
  m_len : mg "len" = none
  m_list : mg "list" = none
  m_min : mg "min" = none
  m_range : mg "range" = none
  m_str : mg "str" = none
  m_sum : mg "sum" = none
  m_tuple : mg "tuple" = none
  c_MOST_COEFFICIENTS : ∃ t, mg "MOST_COEFFICIENTS" = some (.int 201 t)
  c_MOST_NUMBERS : ∃ t, mg "MOST_NUMBERS" = some (.int 400 t)
  c_MOST_TAPS : ∃ t, mg "MOST_TAPS" = some (.int 60 t)
  g_PRIMES : mg "PRIMES" = some (.ref (He.ga K "PRIMES"))
  t_PRIMES : ∀ H, SqT K H (He.ga K "PRIMES") (([2, 3, 5, 7] : List Int).map V.int)
  g_inverse : mg "inverse" = some (.ref (He.ga K "inverse"))
  f_inverse : FunD K "inverse" "inverse" (defArgs (topS 9)) (defBody (topS 9)) (defScope (topS 9)) [] [] (He.ga K "inverse") (fd 0)
  k_inverse : PySem.W.keepIn K (.ref (He.ga K "inverse")) = true
  b_inverse : Binds K (fd 0) P_inverse []
  g_is_between : mg "is_between" = some (.ref (He.ga K "is_between"))
  f_is_between : FunD K "is_between" "is_between" (defArgs (topS 15)) (defBody (topS 15)) (defScope (topS 15)) [] [] (He.ga K "is_between") (fd 1)
  k_is_between : PySem.W.keepIn K (.ref (He.ga K "is_between")) = true
  b_is_between : Binds K (fd 1) P_is_between []
  g_are_numbers : mg "are_numbers" = some (.ref (He.ga K "are_numbers"))
  f_are_numbers : FunD K "are_numbers" "are_numbers" (defArgs (topS 16)) (defBody (topS 16)) (defScope (topS 16)) [] [] (He.ga K "are_numbers") (fd 2)
  k_are_numbers : PySem.W.keepIn K (.ref (He.ga K "are_numbers")) = true
  b_are_numbers : Binds K (fd 2) P_are_numbers []
  g_check_prime : mg "check_prime" = some (.ref (He.ga K "check_prime"))
  f_check_prime : FunD K "check_prime" "check_prime" (defArgs (topS 17)) (defBody (topS 17)) (defScope (topS 17)) [] [] (He.ga K "check_prime") (fd 3)
  k_check_prime : PySem.W.keepIn K (.ref (He.ga K "check_prime")) = true
  b_check_prime : Binds K (fd 3) P_check_prime []
  g_check_number : mg "check_number" = some (.ref (He.ga K "check_number"))
  f_check_number : FunD K "check_number" "check_number" (defArgs (topS 18)) (defBody (topS 18)) (defScope (topS 18)) [] [] (He.ga K "check_number") (fd 4)
  k_check_number : PySem.W.keepIn K (.ref (He.ga K "check_number")) = true
  b_check_number : Binds K (fd 4) P_check_number []
  g_check_polynomial : mg "check_polynomial" = some (.ref (He.ga K "check_polynomial"))
  f_check_polynomial : FunD K "check_polynomial" "check_polynomial" (defArgs (topS 19)) (defBody (topS 19)) (defScope (topS 19)) [] [] (He.ga K "check_polynomial") (fd 5)
  k_check_polynomial : PySem.W.keepIn K (.ref (He.ga K "check_polynomial")) = true
  b_check_polynomial : Binds K (fd 5) P_check_polynomial []
  g_check_taps : mg "check_taps" = some (.ref (He.ga K "check_taps"))
  f_check_taps : FunD K "check_taps" "check_taps" (defArgs (topS 20)) (defBody (topS 20)) (defScope (topS 20)) [] [] (He.ga K "check_taps") (fd 6)
  k_check_taps : PySem.W.keepIn K (.ref (He.ga K "check_taps")) = true
  b_check_taps : Binds K (fd 6) P_check_taps []
  g_are_so_many : mg "are_so_many" = some (.ref (He.ga K "are_so_many"))
  f_are_so_many : FunD K "are_so_many" "are_so_many" (defArgs (topS 21)) (defBody (topS 21)) (defScope (topS 21)) [] [] (He.ga K "are_so_many") (fd 7)
  k_are_so_many : PySem.W.keepIn K (.ref (He.ga K "are_so_many")) = true
  b_are_so_many : Binds K (fd 7) P_are_so_many []
  g_check_start : mg "check_start" = some (.ref (He.ga K "check_start"))
  f_check_start : FunD K "check_start" "check_start" (defArgs (topS 22)) (defBody (topS 22)) (defScope (topS 22)) [] [] (He.ga K "check_start") (fd 8)
  k_check_start : PySem.W.keepIn K (.ref (He.ga K "check_start")) = true
  b_check_start : Binds K (fd 8) P_check_start []
  g_check_wired : mg "check_wired" = some (.ref (He.ga K "check_wired"))
  f_check_wired : FunD K "check_wired" "check_wired" (defArgs (topS 23)) (defBody (topS 23)) (defScope (topS 23)) [] [] (He.ga K "check_wired") (fd 9)
  k_check_wired : PySem.W.keepIn K (.ref (He.ga K "check_wired")) = true
  b_check_wired : Binds K (fd 9) P_check_wired []
  g_trimmed : mg "trimmed" = some (.ref (He.ga K "trimmed"))
  f_trimmed : FunD K "trimmed" "trimmed" (defArgs (topS 25)) (defBody (topS 25)) (defScope (topS 25)) [] [] (He.ga K "trimmed") (fd 10)
  k_trimmed : PySem.W.keepIn K (.ref (He.ga K "trimmed")) = true
  b_trimmed : Binds K (fd 10) P_trimmed []
  g_product_of : mg "product_of" = some (.ref (He.ga K "product_of"))
  f_product_of : FunD K "product_of" "product_of" (defArgs (topS 26)) (defBody (topS 26)) (defScope (topS 26)) [] [] (He.ga K "product_of") (fd 11)
  k_product_of : PySem.W.keepIn K (.ref (He.ga K "product_of")) = true
  b_product_of : Binds K (fd 11) P_product_of []
  g_low_of : mg "low_of" = some (.ref (He.ga K "low_of"))
  f_low_of : FunD K "low_of" "low_of" (defArgs (topS 28)) (defBody (topS 28)) (defScope (topS 28)) [] [] (He.ga K "low_of") (fd 12)
  k_low_of : PySem.W.keepIn K (.ref (He.ga K "low_of")) = true
  b_low_of : Binds K (fd 12) P_low_of []
  g_fraction : mg "fraction" = some (.ref (He.ga K "fraction"))
  f_fraction : FunD K "fraction" "fraction" (defArgs (topS 30)) (defBody (topS 30)) (defScope (topS 30)) [] [] (He.ga K "fraction") (fd 13)
  k_fraction : PySem.W.keepIn K (.ref (He.ga K "fraction")) = true
  b_fraction : Binds K (fd 13) P_fraction []
  g_expansion : mg "expansion" = some (.ref (He.ga K "expansion"))
  f_expansion : FunD K "expansion" "expansion" (defArgs (topS 31)) (defBody (topS 31)) (defScope (topS 31)) [] [] (He.ga K "expansion") (fd 14)
  k_expansion : PySem.W.keepIn K (.ref (He.ga K "expansion")) = true
  b_expansion : Binds K (fd 14) P_expansion []
  g__law_taken : mg "_law_taken" = some (.ref (He.ga K "_law_taken"))
  f__law_taken : FunD K "_law_taken" "_law_taken" (defArgs (topS 33)) (defBody (topS 33)) (defScope (topS 33)) [] [] (He.ga K "_law_taken") (fd 15)
  k__law_taken : PySem.W.keepIn K (.ref (He.ga K "_law_taken")) = true
  b__law_taken : Binds K (fd 15) P__law_taken []
  g__law_pick : mg "_law_pick" = some (.ref (He.ga K "_law_pick"))
  f__law_pick : FunD K "_law_pick" "_law_pick" (defArgs (topS 34)) (defBody (topS 34)) (defScope (topS 34)) [] [] (He.ga K "_law_pick") (fd 16)
  k__law_pick : PySem.W.keepIn K (.ref (He.ga K "_law_pick")) = true
  b__law_pick : Binds K (fd 16) P__law_pick []
  g__law_prime : mg "_law_prime" = some (.ref (He.ga K "_law_prime"))
  f__law_prime : FunD K "_law_prime" "_law_prime" (defArgs (topS 35)) (defBody (topS 35)) (defScope (topS 35)) [] [] (He.ga K "_law_prime") (fd 17)
  k__law_prime : PySem.W.keepIn K (.ref (He.ga K "_law_prime")) = true
  b__law_prime : Binds K (fd 17) P__law_prime []
  g__law_taps : mg "_law_taps" = some (.ref (He.ga K "_law_taps"))
  f__law_taps : FunD K "_law_taps" "_law_taps" (defArgs (topS 36)) (defBody (topS 36)) (defScope (topS 36)) [] [] (He.ga K "_law_taps") (fd 18)
  k__law_taps : PySem.W.keepIn K (.ref (He.ga K "_law_taps")) = true
  b__law_taps : Binds K (fd 18) P__law_taps []
  g__law_trim : mg "_law_trim" = some (.ref (He.ga K "_law_trim"))
  f__law_trim : FunD K "_law_trim" "_law_trim" (defArgs (topS 37)) (defBody (topS 37)) (defScope (topS 37)) [] [] (He.ga K "_law_trim") (fd 19)
  k__law_trim : PySem.W.keepIn K (.ref (He.ga K "_law_trim")) = true
  b__law_trim : Binds K (fd 19) P__law_trim []
  g__law_times : mg "_law_times" = some (.ref (He.ga K "_law_times"))
  f__law_times : FunD K "_law_times" "_law_times" (defArgs (topS 38)) (defBody (topS 38)) (defScope (topS 38)) [] [] (He.ga K "_law_times") (fd 20)
  k__law_times : PySem.W.keepIn K (.ref (He.ga K "_law_times")) = true
  b__law_times : Binds K (fd 20) P__law_times []
  g__law_alike : mg "_law_alike" = some (.ref (He.ga K "_law_alike"))
  f__law_alike : FunD K "_law_alike" "_law_alike" (defArgs (topS 39)) (defBody (topS 39)) (defScope (topS 39)) [] [] (He.ga K "_law_alike") (fd 21)
  k__law_alike : PySem.W.keepIn K (.ref (He.ga K "_law_alike")) = true
  b__law_alike : Binds K (fd 21) P__law_alike []
  g__law_run : mg "_law_run" = some (.ref (He.ga K "_law_run"))
  f__law_run : FunD K "_law_run" "_law_run" (defArgs (topS 40)) (defBody (topS 40)) (defScope (topS 40)) [] [] (He.ga K "_law_run") (fd 22)
  k__law_run : PySem.W.keepIn K (.ref (He.ga K "_law_run")) = true
  b__law_run : Binds K (fd 22) P__law_run []
  g__law_row : mg "_law_row" = some (.ref (He.ga K "_law_row"))
  f__law_row : FunD K "_law_row" "_law_row" (defArgs (topS 41)) (defBody (topS 41)) (defScope (topS 41)) [] [] (He.ga K "_law_row") (fd 23)
  k__law_row : PySem.W.keepIn K (.ref (He.ga K "_law_row")) = true
  b__law_row : Binds K (fd 23) P__law_row []
  g__law_poly : mg "_law_poly" = some (.ref (He.ga K "_law_poly"))
  f__law_poly : FunD K "_law_poly" "_law_poly" (defArgs (topS 42)) (defBody (topS 42)) (defScope (topS 42)) [] [] (He.ga K "_law_poly") (fd 24)
  k__law_poly : PySem.W.keepIn K (.ref (He.ga K "_law_poly")) = true
  b__law_poly : Binds K (fd 24) P__law_poly []
  g__law_is_poly : mg "_law_is_poly" = some (.ref (He.ga K "_law_is_poly"))
  f__law_is_poly : FunD K "_law_is_poly" "_law_is_poly" (defArgs (topS 43)) (defBody (topS 43)) (defScope (topS 43)) [] [] (He.ga K "_law_is_poly") (fd 25)
  k__law_is_poly : PySem.W.keepIn K (.ref (He.ga K "_law_is_poly")) = true
  b__law_is_poly : Binds K (fd 25) P__law_is_poly []
  g_law : mg "law" = some (.ref (He.ga K "law"))
  f_law : FunD K "law" "law" (defArgs (topS 44)) (defBody (topS 44)) (defScope (topS 44)) [] [] (He.ga K "law") (fd 26)
  k_law : PySem.W.keepIn K (.ref (He.ga K "law")) = true
  b_law : Binds K (fd 26) P_law []
structure Ih (P : Program) (w : World) (K : PySem.W.Frag) (mg : Str → Option Value) (base : Heap) (fd : Nat → FuncData) (n : Nat) : Prop where
  i_inverse : FnOk P w K mg base CX0 n (He.ga K "inverse") (fd 0) P_inverse (spI K (run n "inverse"))
  i_is_between : FnOk P w K mg base CX0 n (He.ga K "is_between") (fd 1) P_is_between (spI K (run n "is_between"))
  i_are_numbers : FnOk P w K mg base CX0 n (He.ga K "are_numbers") (fd 2) P_are_numbers (spI K (run n "are_numbers"))
  i_check_prime : FnOk P w K mg base CX0 n (He.ga K "check_prime") (fd 3) P_check_prime (spI K (run n "check_prime"))
  i_check_number : FnOk P w K mg base CX0 n (He.ga K "check_number") (fd 4) P_check_number (spI K (run n "check_number"))
  i_check_polynomial : FnOk P w K mg base CX0 n (He.ga K "check_polynomial") (fd 5) P_check_polynomial (spI K (run n "check_polynomial"))
  i_check_taps : FnOk P w K mg base CX0 n (He.ga K "check_taps") (fd 6) P_check_taps (spI K (run n "check_taps"))
  i_are_so_many : FnOk P w K mg base CX0 n (He.ga K "are_so_many") (fd 7) P_are_so_many (spI K (run n "are_so_many"))
  i_check_start : FnOk P w K mg base CX0 n (He.ga K "check_start") (fd 8) P_check_start (spI K (run n "check_start"))
  i_check_wired : FnOk P w K mg base CX0 n (He.ga K "check_wired") (fd 9) P_check_wired (spI K (run n "check_wired"))
  i_trimmed : FnOk P w K mg base CX0 n (He.ga K "trimmed") (fd 10) P_trimmed (spI K (run n "trimmed"))
  i_product_of : FnOk P w K mg base CX0 n (He.ga K "product_of") (fd 11) P_product_of (spI K (run n "product_of"))
  i_low_of : FnOk P w K mg base CX0 n (He.ga K "low_of") (fd 12) P_low_of (spI K (run n "low_of"))
  i_fraction : FnOk P w K mg base CX0 n (He.ga K "fraction") (fd 13) P_fraction (spI K (run n "fraction"))
  i_expansion : FnOk P w K mg base CX0 n (He.ga K "expansion") (fd 14) P_expansion (spI K (run n "expansion"))
  i__law_taken : FnOk P w K mg base CX0 n (He.ga K "_law_taken") (fd 15) P__law_taken (spI K (run n "_law_taken"))
  i__law_pick : FnOk P w K mg base CX0 n (He.ga K "_law_pick") (fd 16) P__law_pick (spI K (run n "_law_pick"))
  i__law_prime : FnOk P w K mg base CX0 n (He.ga K "_law_prime") (fd 17) P__law_prime (spI K (run n "_law_prime"))
  i__law_taps : FnOk P w K mg base CX0 n (He.ga K "_law_taps") (fd 18) P__law_taps (spI K (run n "_law_taps"))
  i__law_trim : FnOk P w K mg base CX0 n (He.ga K "_law_trim") (fd 19) P__law_trim (spI K (run n "_law_trim"))
  i__law_times : FnOk P w K mg base CX0 n (He.ga K "_law_times") (fd 20) P__law_times (spI K (run n "_law_times"))
  i__law_alike : FnOk P w K mg base CX0 n (He.ga K "_law_alike") (fd 21) P__law_alike (spI K (run n "_law_alike"))
  i__law_run : FnOk P w K mg base CX0 n (He.ga K "_law_run") (fd 22) P__law_run (spI K (run n "_law_run"))
  i__law_row : FnOk P w K mg base CX0 n (He.ga K "_law_row") (fd 23) P__law_row (spI K (run n "_law_row"))
  i__law_poly : FnOk P w K mg base CX0 n (He.ga K "_law_poly") (fd 24) P__law_poly (spI K (run n "_law_poly"))
  i__law_is_poly : FnOk P w K mg base CX0 n (He.ga K "_law_is_poly") (fd 25) P__law_is_poly (spI K (run n "_law_is_poly"))
  i_law : FnOk P w K mg base CX0 n (He.ga K "law") (fd 26) P_law (spI K (run n "law"))
section
variable {P : Program} {w : World} {K : PySem.W.Frag} {mg : Str → Option Value} {base : Heap} {fd : Nat → FuncData}
theorem ok_inverse (T : Tx K mg fd) {n : Nat} (I : Ih P w K mg base fd n) : FnOk P w K mg base CX0 (n + 1) (He.ga K "inverse") (fd 0) P_inverse (spI K (run (n + 1) "inverse")) := by
  have nd := sc_inverse.nd
  rw [run_inverse]
  refine T.f_inverse.ok sc_inverse (fun vs H Q E h => spI_len rfl h) (fun cdv A outer s H vs Q E hr h => ⟨kS K (F_inverse (run n)).body, PSs.nox ?_, fn_read rfl (show (2 : Nat) ≤ 3 by decide) h⟩)
  exact (xb_cons (xs_set (i := 2) nd rfl (by first | exact Or.inl rfl | exact Or.inr rfl) x_int) (xb_cons (x_while PassesOwn.never (x_cmpT (op_neD hr.units) s_ne (o_v (x_bin op_mod s_mod (o_v (x_bin op_mulA s_mul (o_var (i := 1) rfl (by first | exact Or.inl rfl | exact Or.inr (Or.inl rfl) | exact Or.inr (Or.inr rfl))) (o_var (i := 2) rfl (by first | exact Or.inl rfl | exact Or.inr (Or.inl rfl) | exact Or.inr (Or.inr rfl))))) (o_var (i := 0) rfl (by first | exact Or.inl rfl | exact Or.inr (Or.inl rfl) | exact Or.inr (Or.inr rfl))))) (o_v x_int) (nomark _)) (xb_one (xs_aug (i := 2) nd rfl (by first | exact Or.inl rfl | exact Or.inr rfl) (o_v x_int) ip_add))) (xb_one (xs_ret (x_var (i := 2) rfl (by first | exact Or.inl rfl | exact Or.inr (Or.inl rfl) | exact Or.inr (Or.inr rfl)))))))
theorem ok_is_between (T : Tx K mg fd) {n : Nat} (I : Ih P w K mg base fd n) : FnOk P w K mg base CX0 (n + 1) (He.ga K "is_between") (fd 1) P_is_between (spI K (run (n + 1) "is_between")) := by
  have nd := sc_is_between.nd
  rw [run_is_between]
  refine T.f_is_between.ok sc_is_between (fun vs H Q E h => spI_len rfl h) (fun cdv A outer s H vs Q E hr h => ⟨kS K (F_is_between (run n)).body, PSs.nox ?_, fn_read rfl (show (3 : Nat) ≤ 3 by decide) h⟩)
  exact (xb_one (xs_ret (x_andV (x_isi1 (t := .int) (o_var (i := 0) rfl (by first | exact Or.inl rfl | exact Or.inr (Or.inl rfl) | exact Or.inr (Or.inr rfl))) (by rfl) T.m_isinstance b_isinstance (by rfl) T.m_int b_int) (x_andV (x_notV (x_isi1 (t := .bool) (o_var (i := 0) rfl (by first | exact Or.inl rfl | exact Or.inr (Or.inl rfl) | exact Or.inr (Or.inr rfl))) (by rfl) T.m_isinstance b_isinstance (by rfl) T.m_bool b_bool)) (pe_one (x_chain op_le op_le s_le s_le (o_var (i := 1) rfl (by first | exact Or.inl rfl | exact Or.inr (Or.inl rfl) | exact Or.inr (Or.inr rfl))) (o_var (i := 0) rfl (by first | exact Or.inl rfl | exact Or.inr (Or.inl rfl) | exact Or.inr (Or.inr rfl))) (o_var (i := 2) rfl (by first | exact Or.inl rfl | exact Or.inr (Or.inl rfl) | exact Or.inr (Or.inr rfl)))))))))
theorem ok_are_numbers (T : Tx K mg fd) {n : Nat} (I : Ih P w K mg base fd n) : FnOk P w K mg base CX0 (n + 1) (He.ga K "are_numbers") (fd 2) P_are_numbers (spI K (run (n + 1) "are_numbers")) := by
  have nd := sc_are_numbers.nd
  rw [run_are_numbers]
  refine T.f_are_numbers.ok sc_are_numbers (fun vs H Q E h => spI_len rfl h) (fun cdv A outer s H vs Q E hr h => ⟨kS K (F_are_numbers (run n)).body, PSs.nox ?_, fn_read rfl (show (3 : Nat) ≤ 4 by decide) h⟩)
  exact (xb_cons (xs_if (PW.pt (x_or (x_not (x_truth (o_v (x_isi1 (t := .tuple) (o_var (i := 1) rfl (by first | exact Or.inl rfl | exact Or.inr (Or.inl rfl) | exact Or.inr (Or.inr rfl))) (by rfl) T.m_isinstance b_isinstance (by rfl) T.m_tuple b_tuple)) (fun _ => rfl))) (pw_or1 (x_cmpT op_gt s_gt (o_v (x_biB call_len_seq s_len (by rfl) T.m_len b_len (xa_cons (o_var (i := 1) rfl (by first | exact Or.inl rfl | exact Or.inr (Or.inl rfl) | exact Or.inr (Or.inr rfl))) xa_nil))) (o_var (i := 2) rfl (by first | exact Or.inl rfl | exact Or.inr (Or.inl rfl) | exact Or.inr (Or.inr rfl))) (nomark _))))) (xb_one (xs_ret x_bl)) xb_nil) (xb_one (xs_ret (x_biB (cr_all rfl) s_all (by rfl) T.m_all b_all (xa_cons (o_v (x_lc (own := [("number", 3)]) rfl nd (xi_seq (o_var (i := 1) rfl (by first | exact Or.inl rfl | exact Or.inr (Or.inl rfl) | exact Or.inr (Or.inr rfl)))) (blkOk_by (own := [("number", 3)]) (N := N_are_numbers) (sc := defScope (topS 16)) (by decide +kernel)) gs_nm (by simp [Tg.slots]) (fun _ _ _ _ _ => pg_name (i := 3) nd rfl (by first | exact Or.inl rfl | exact Or.inr rfl)) (fun _ _ _ _ _ => xts_nil) (fun _ _ _ _ _ => (x_call I.i_is_between hr (by rfl) T.g_is_between T.k_is_between T.b_is_between pass0 (xa_cons (o_var (i := 3) rfl (by first | exact Or.inl rfl | exact Or.inr (Or.inl rfl) | exact Or.inr (Or.inr rfl))) (xa_cons (o_v x_int) (xa_cons (o_v (x_bin op_sub s_sub (o_var (i := 0) rfl (by first | exact Or.inl rfl | exact Or.inr (Or.inl rfl) | exact Or.inr (Or.inr rfl))) (o_v x_int))) xa_nil))))))) xa_nil)))))
theorem ok_check_prime (T : Tx K mg fd) {n : Nat} (I : Ih P w K mg base fd n) : FnOk P w K mg base CX0 (n + 1) (He.ga K "check_prime") (fd 3) P_check_prime (spI K (run (n + 1) "check_prime")) := by
  have nd := sc_check_prime.nd
  rw [run_check_prime]
  refine T.f_check_prime.ok sc_check_prime (fun vs H Q E h => spI_len rfl h) (fun cdv A outer s H vs Q E hr h => ⟨kS K (F_check_prime (run n)).body, PSs.nox ?_, fn_read rfl (show (1 : Nat) ≤ 1 by decide) h⟩)
  exact (xb_one (xs_if (PW.pt (x_or (x_not (x_truth (o_v (x_call I.i_is_between hr (by rfl) T.g_is_between T.k_is_between T.b_is_between pass0 (xa_cons (o_var (i := 0) rfl (by first | exact Or.inl rfl | exact Or.inr (Or.inl rfl) | exact Or.inr (Or.inr rfl))) (xa_cons (o_v x_int) (xa_cons (o_v x_int) xa_nil))))) (fun _ => rfl))) (pw_or1 (x_cmpT op_notIn_seq s_notIn (o_var (i := 0) rfl (by first | exact Or.inl rfl | exact Or.inr (Or.inl rfl) | exact Or.inr (Or.inr rfl))) (o_v (x_globT (is := [2, 3, 5, 7]) (by rfl) T.g_PRIMES T.t_PRIMES)) (by rfl))))) (xb_one xs_never) xb_nil))
theorem ok_check_number (T : Tx K mg fd) {n : Nat} (I : Ih P w K mg base fd n) : FnOk P w K mg base CX0 (n + 1) (He.ga K "check_number") (fd 4) P_check_number (spI K (run (n + 1) "check_number")) := by
  have nd := sc_check_number.nd
  rw [run_check_number]
  refine T.f_check_number.ok sc_check_number (fun vs H Q E h => spI_len rfl h) (fun cdv A outer s H vs Q E hr h => ⟨kS K (F_check_number (run n)).body, PSs.nox ?_, fn_read rfl (show (3 : Nat) ≤ 3 by decide) h⟩)
  exact (xb_one (xs_if (x_not (x_truth (o_v (x_call I.i_is_between hr (by rfl) T.g_is_between T.k_is_between T.b_is_between pass0 (xa_cons (o_var (i := 0) rfl (by first | exact Or.inl rfl | exact Or.inr (Or.inl rfl) | exact Or.inr (Or.inr rfl))) (xa_cons (o_var (i := 1) rfl (by first | exact Or.inl rfl | exact Or.inr (Or.inl rfl) | exact Or.inr (Or.inr rfl))) (xa_cons (o_var (i := 2) rfl (by first | exact Or.inl rfl | exact Or.inr (Or.inl rfl) | exact Or.inr (Or.inr rfl))) xa_nil))))) (fun _ => rfl))) (xb_one xs_never) xb_nil))
theorem ok_check_polynomial (T : Tx K mg fd) {n : Nat} (I : Ih P w K mg base fd n) : FnOk P w K mg base CX0 (n + 1) (He.ga K "check_polynomial") (fd 5) P_check_polynomial (spI K (run (n + 1) "check_polynomial")) := by
  have nd := sc_check_polynomial.nd
  rw [run_check_polynomial]
  refine T.f_check_polynomial.ok sc_check_polynomial (fun vs H Q E h => spI_len rfl h) (fun cdv A outer s H vs Q E hr h => ⟨kS K (F_check_polynomial (run n)).body, PSs.nox ?_, fn_read rfl (show (2 : Nat) ≤ 2 by decide) h⟩)
  exact (xb_one (xs_if (PW.pt (x_or (x_not (x_truth (o_v (x_call I.i_are_numbers hr (by rfl) T.g_are_numbers T.k_are_numbers T.b_are_numbers pass0 (xa_cons (o_var (i := 0) rfl (by first | exact Or.inl rfl | exact Or.inr (Or.inl rfl) | exact Or.inr (Or.inr rfl))) (xa_cons (o_var (i := 1) rfl (by first | exact Or.inl rfl | exact Or.inr (Or.inl rfl) | exact Or.inr (Or.inr rfl))) (xa_cons (o_v (x_globI (by rfl) T.c_MOST_COEFFICIENTS)) xa_nil))))) (fun _ => rfl))) (pw_or1 (x_cmpT (op_eqD hr.units) s_eq (o_v (x_sl (o_var (i := 1) rfl (by first | exact Or.inl rfl | exact Or.inr (Or.inl rfl) | exact Or.inr (Or.inr rfl))) (xp_some (o_v (x_un un_neg s_neg (o_v x_int)))) xp_none)) (o_v (x_tup (xa_cons (o_v x_int) xa_nil))) (nomark _))))) (xb_one xs_never) xb_nil))
theorem ok_check_taps (T : Tx K mg fd) {n : Nat} (I : Ih P w K mg base fd n) : FnOk P w K mg base CX0 (n + 1) (He.ga K "check_taps") (fd 6) P_check_taps (spI K (run (n + 1) "check_taps")) := by
  have nd := sc_check_taps.nd
  rw [run_check_taps]
  refine T.f_check_taps.ok sc_check_taps (fun vs H Q E h => spI_len rfl h) (fun cdv A outer s H vs Q E hr h => ⟨kS K (F_check_taps (run n)).body, PSs.nox ?_, fn_read rfl (show (2 : Nat) ≤ 2 by decide) h⟩)
  exact (xb_one (xs_if (x_not (x_truth (o_v (x_call I.i_are_numbers hr (by rfl) T.g_are_numbers T.k_are_numbers T.b_are_numbers pass0 (xa_cons (o_var (i := 0) rfl (by first | exact Or.inl rfl | exact Or.inr (Or.inl rfl) | exact Or.inr (Or.inr rfl))) (xa_cons (o_var (i := 1) rfl (by first | exact Or.inl rfl | exact Or.inr (Or.inl rfl) | exact Or.inr (Or.inr rfl))) (xa_cons (o_v (x_globI (by rfl) T.c_MOST_TAPS)) xa_nil))))) (fun _ => rfl))) (xb_one xs_never) xb_nil))
theorem ok_are_so_many (T : Tx K mg fd) {n : Nat} (I : Ih P w K mg base fd n) : FnOk P w K mg base CX0 (n + 1) (He.ga K "are_so_many") (fd 7) P_are_so_many (spI K (run (n + 1) "are_so_many")) := by
  have nd := sc_are_so_many.nd
  rw [run_are_so_many]
  refine T.f_are_so_many.ok sc_are_so_many (fun vs H Q E h => spI_len rfl h) (fun cdv A outer s H vs Q E hr h => ⟨kS K (F_are_so_many (run n)).body, PSs.nox ?_, fn_read rfl (show (3 : Nat) ≤ 3 by decide) h⟩)
  exact (xb_one (xs_ret (x_andV (x_call I.i_are_numbers hr (by rfl) T.g_are_numbers T.k_are_numbers T.b_are_numbers pass0 (xa_cons (o_var (i := 0) rfl (by first | exact Or.inl rfl | exact Or.inr (Or.inl rfl) | exact Or.inr (Or.inr rfl))) (xa_cons (o_var (i := 1) rfl (by first | exact Or.inl rfl | exact Or.inr (Or.inl rfl) | exact Or.inr (Or.inr rfl))) (xa_cons (o_var (i := 2) rfl (by first | exact Or.inl rfl | exact Or.inr (Or.inl rfl) | exact Or.inr (Or.inr rfl))) xa_nil)))) (pe_one (x_cmp (op_eqD hr.units) s_eq (o_v (x_biB call_len_seq s_len (by rfl) T.m_len b_len (xa_cons (o_var (i := 1) rfl (by first | exact Or.inl rfl | exact Or.inr (Or.inl rfl) | exact Or.inr (Or.inr rfl))) xa_nil))) (o_var (i := 2) rfl (by first | exact Or.inl rfl | exact Or.inr (Or.inl rfl) | exact Or.inr (Or.inr rfl))) (nomark _))))))
theorem ok_check_start (T : Tx K mg fd) {n : Nat} (I : Ih P w K mg base fd n) : FnOk P w K mg base CX0 (n + 1) (He.ga K "check_start") (fd 8) P_check_start (spI K (run (n + 1) "check_start")) := by
  have nd := sc_check_start.nd
  rw [run_check_start]
  refine T.f_check_start.ok sc_check_start (fun vs H Q E h => spI_len rfl h) (fun cdv A outer s H vs Q E hr h => ⟨kS K (F_check_start (run n)).body, PSs.nox ?_, fn_read rfl (show (3 : Nat) ≤ 3 by decide) h⟩)
  exact (xb_one (xs_if (x_not (x_truth (o_v (x_call I.i_are_so_many hr (by rfl) T.g_are_so_many T.k_are_so_many T.b_are_so_many pass0 (xa_cons (o_var (i := 0) rfl (by first | exact Or.inl rfl | exact Or.inr (Or.inl rfl) | exact Or.inr (Or.inr rfl))) (xa_cons (o_var (i := 2) rfl (by first | exact Or.inl rfl | exact Or.inr (Or.inl rfl) | exact Or.inr (Or.inr rfl))) (xa_cons (o_v (x_biB call_len_seq s_len (by rfl) T.m_len b_len (xa_cons (o_var (i := 1) rfl (by first | exact Or.inl rfl | exact Or.inr (Or.inl rfl) | exact Or.inr (Or.inr rfl))) xa_nil))) xa_nil))))) (fun _ => rfl))) (xb_one xs_never) xb_nil))
theorem ok_check_wired (T : Tx K mg fd) {n : Nat} (I : Ih P w K mg base fd n) : FnOk P w K mg base CX0 (n + 1) (He.ga K "check_wired") (fd 9) P_check_wired (spI K (run (n + 1) "check_wired")) := by
  have nd := sc_check_wired.nd
  rw [run_check_wired]
  refine T.f_check_wired.ok sc_check_wired (fun vs H Q E h => spI_len rfl h) (fun cdv A outer s H vs Q E hr h => ⟨kS K (F_check_wired (run n)).body, PSs.nox ?_, fn_read rfl (show (3 : Nat) ≤ 3 by decide) h⟩)
  exact (xb_cons (xs_ex (x_call I.i_check_prime hr (by rfl) T.g_check_prime T.k_check_prime T.b_check_prime pass0 (xa_cons (o_var (i := 0) rfl (by first | exact Or.inl rfl | exact Or.inr (Or.inl rfl) | exact Or.inr (Or.inr rfl))) xa_nil))) (xb_cons (xs_ex (x_call I.i_check_taps hr (by rfl) T.g_check_taps T.k_check_taps T.b_check_taps pass0 (xa_cons (o_var (i := 0) rfl (by first | exact Or.inl rfl | exact Or.inr (Or.inl rfl) | exact Or.inr (Or.inr rfl))) (xa_cons (o_var (i := 1) rfl (by first | exact Or.inl rfl | exact Or.inr (Or.inl rfl) | exact Or.inr (Or.inr rfl))) xa_nil)))) (xb_one (xs_ex (x_call I.i_check_start hr (by rfl) T.g_check_start T.k_check_start T.b_check_start pass0 (xa_cons (o_var (i := 0) rfl (by first | exact Or.inl rfl | exact Or.inr (Or.inl rfl) | exact Or.inr (Or.inr rfl))) (xa_cons (o_var (i := 1) rfl (by first | exact Or.inl rfl | exact Or.inr (Or.inl rfl) | exact Or.inr (Or.inr rfl))) (xa_cons (o_var (i := 2) rfl (by first | exact Or.inl rfl | exact Or.inr (Or.inl rfl) | exact Or.inr (Or.inr rfl))) xa_nil))))))))
theorem ok_trimmed (T : Tx K mg fd) {n : Nat} (I : Ih P w K mg base fd n) : FnOk P w K mg base CX0 (n + 1) (He.ga K "trimmed") (fd 10) P_trimmed (spI K (run (n + 1) "trimmed")) := by
  have nd := sc_trimmed.nd
  rw [run_trimmed]
  refine T.f_trimmed.ok sc_trimmed (fun vs H Q E h => spI_len rfl h) (fun cdv A outer s H vs Q E hr h => ⟨kS K (F_trimmed (run n)).body, PSs.nox ?_, fn_read rfl (show (1 : Nat) ≤ 2 by decide) h⟩)
  exact (xb_cons (xs_set (i := 1) nd rfl (by first | exact Or.inl rfl | exact Or.inr rfl) (x_biB call_len_seq s_len (by rfl) T.m_len b_len (xa_cons (o_var (i := 0) rfl (by first | exact Or.inl rfl | exact Or.inr (Or.inl rfl) | exact Or.inr (Or.inr rfl))) xa_nil))) (xb_cons (x_while PassesOwn.never (PW.pt (x_and (x_cmpT op_gt s_gt (o_var (i := 1) rfl (by first | exact Or.inl rfl | exact Or.inr (Or.inl rfl) | exact Or.inr (Or.inr rfl))) (o_v x_int) (nomark _)) (pw_and1 (x_cmpT (op_eqD hr.units) s_eq (o_v (x_ix ix_any s_ix (o_var (i := 0) rfl (by first | exact Or.inl rfl | exact Or.inr (Or.inl rfl) | exact Or.inr (Or.inr rfl))) (o_v (x_bin op_sub s_sub (o_var (i := 1) rfl (by first | exact Or.inl rfl | exact Or.inr (Or.inl rfl) | exact Or.inr (Or.inr rfl))) (o_v x_int))) (fun _ _ => rfl))) (o_v x_int) (nomark _))))) (xb_one (xs_aug (i := 1) nd rfl (by first | exact Or.inl rfl | exact Or.inr rfl) (o_v x_int) ip_sub))) (xb_one (xs_ret (x_biT call_tuple_of s_tupO (by rfl) T.m_tuple b_tuple (xa_cons (o_v (x_sl (o_var (i := 0) rfl (by first | exact Or.inl rfl | exact Or.inr (Or.inl rfl) | exact Or.inr (Or.inr rfl))) xp_none (xp_some (o_var (i := 1) rfl (by first | exact Or.inl rfl | exact Or.inr (Or.inl rfl) | exact Or.inr (Or.inr rfl)))))) xa_nil))))))
theorem ok_product_of (T : Tx K mg fd) {n : Nat} (I : Ih P w K mg base fd n) : FnOk P w K mg base CX0 (n + 1) (He.ga K "product_of") (fd 11) P_product_of (spI K (run (n + 1) "product_of")) := by
  have nd := sc_product_of.nd
  rw [run_product_of]
  refine T.f_product_of.ok sc_product_of (fun vs H Q E h => spI_len rfl h) (fun cdv A outer s H vs Q E hr h => ⟨kS K (F_product_of (run n)).body, PSs.nox ?_, fn_read rfl (show (3 : Nat) ≤ 9 by decide) h⟩)
  exact (xb_cons (xs_if (PW.pt (x_or (x_not (x_truth (o_var (i := 1) rfl (by first | exact Or.inl rfl | exact Or.inr (Or.inl rfl) | exact Or.inr (Or.inr rfl))) (fun _ => rfl))) (pw_or1 (x_not (x_truth (o_var (i := 2) rfl (by first | exact Or.inl rfl | exact Or.inr (Or.inl rfl) | exact Or.inr (Or.inr rfl))) (fun _ => rfl)))))) (xb_one (xs_ret (x_tup xa_nil))) xb_nil) (xb_cons (xs_set (i := 3) nd rfl (by first | exact Or.inl rfl | exact Or.inr rfl) (x_bin op_mulA s_mul (o_v (x_lst (xa_cons (o_v x_int) xa_nil))) (o_v (x_bin op_sub s_sub (o_v (x_bin op_addA s_add (o_v (x_biB call_len_seq s_len (by rfl) T.m_len b_len (xa_cons (o_var (i := 1) rfl (by first | exact Or.inl rfl | exact Or.inr (Or.inl rfl) | exact Or.inr (Or.inr rfl))) xa_nil))) (o_v (x_biB call_len_seq s_len (by rfl) T.m_len b_len (xa_cons (o_var (i := 2) rfl (by first | exact Or.inl rfl | exact Or.inr (Or.inl rfl) | exact Or.inr (Or.inr rfl))) xa_nil))))) (o_v x_int))))) (xb_cons (x_for PassesOwn.never rfl (xi_enum (by rfl) T.m_enumerate (o_v (x_var (i := 1) rfl (by first | exact Or.inl rfl | exact Or.inr (Or.inl rfl) | exact Or.inr (Or.inr rfl))))) (pg_tup rfl (pgs_cons (pg_name (i := 4) nd rfl (by first | exact Or.inl rfl | exact Or.inr rfl)) (pgs_cons (pg_name (i := 5) nd rfl (by first | exact Or.inl rfl | exact Or.inr rfl)) pgs_nil))) (gs_tup rfl (GSs.cons (GSs.cons GSs.nil))) (xb_cons (xs_if (x_cmpT (op_eqD hr.units) s_eq (o_var (i := 5) rfl (by first | exact Or.inl rfl | exact Or.inr (Or.inl rfl) | exact Or.inr (Or.inr rfl))) (o_v x_int) (nomark _)) (xb_one xs_continue) xb_nil) (xb_one (x_for PassesOwn.never rfl (xi_enum (by rfl) T.m_enumerate (o_v (x_var (i := 2) rfl (by first | exact Or.inl rfl | exact Or.inr (Or.inl rfl) | exact Or.inr (Or.inr rfl))))) (pg_tup rfl (pgs_cons (pg_name (i := 6) nd rfl (by first | exact Or.inl rfl | exact Or.inr rfl)) (pgs_cons (pg_name (i := 7) nd rfl (by first | exact Or.inl rfl | exact Or.inr rfl)) pgs_nil))) (gs_tup rfl (GSs.cons (GSs.cons GSs.nil))) (xb_one (xs_augIx (i := 3) (pe_var (i := 3) rfl (by first | exact Or.inl rfl | exact Or.inr (Or.inl rfl) | exact Or.inr (Or.inr rfl))) (o_v (x_bin op_addA s_add (o_var (i := 4) rfl (by first | exact Or.inl rfl | exact Or.inr (Or.inl rfl) | exact Or.inr (Or.inr rfl))) (o_var (i := 6) rfl (by first | exact Or.inl rfl | exact Or.inr (Or.inl rfl) | exact Or.inr (Or.inr rfl))))) (o_v (x_bin op_mulA s_mul (o_var (i := 5) rfl (by first | exact Or.inl rfl | exact Or.inr (Or.inl rfl) | exact Or.inr (Or.inr rfl))) (o_var (i := 7) rfl (by first | exact Or.inl rfl | exact Or.inr (Or.inl rfl) | exact Or.inr (Or.inr rfl))))) ip_add)))))) (xb_one (xs_ret (x_call I.i_trimmed hr (by rfl) T.g_trimmed T.k_trimmed T.b_trimmed pass0 (xa_cons (o_v (x_lc (own := [("number", 8)]) rfl nd (xi_seq (o_var (i := 3) rfl (by first | exact Or.inl rfl | exact Or.inr (Or.inl rfl) | exact Or.inr (Or.inr rfl)))) (blkOk_by (own := [("number", 8)]) (N := N_product_of) (sc := defScope (topS 26)) (by decide +kernel)) gs_nm (by simp [Tg.slots]) (fun _ _ _ _ _ => pg_name (i := 8) nd rfl (by first | exact Or.inl rfl | exact Or.inr rfl)) (fun _ _ _ _ _ => xts_nil) (fun _ _ _ _ _ => (x_bin op_mod s_mod (o_var (i := 8) rfl (by first | exact Or.inl rfl | exact Or.inr (Or.inl rfl) | exact Or.inr (Or.inr rfl))) (o_var (i := 0) rfl (by first | exact Or.inl rfl | exact Or.inr (Or.inl rfl) | exact Or.inr (Or.inr rfl))))))) xa_nil)))))))
theorem ok_low_of (T : Tx K mg fd) {n : Nat} (I : Ih P w K mg base fd n) : FnOk P w K mg base CX0 (n + 1) (He.ga K "low_of") (fd 12) P_low_of (spI K (run (n + 1) "low_of")) := by
  have nd := sc_low_of.nd
  rw [run_low_of]
  refine T.f_low_of.ok sc_low_of (fun vs H Q E h => spI_len rfl h) (fun cdv A outer s H vs Q E hr h => ⟨kS K (F_low_of (run n)).body, PSs.nox ?_, fn_read rfl (show (2 : Nat) ≤ 3 by decide) h⟩)
  exact (xb_one (xs_ret (x_call I.i_trimmed hr (by rfl) T.g_trimmed T.k_trimmed T.b_trimmed pass0 (xa_cons (o_v (x_bin op_addA s_add (o_v (x_lst (xa_cons (o_v x_int) xa_nil))) (o_v (x_lc (own := [("tap", 2)]) rfl nd (xi_seq (o_var (i := 1) rfl (by first | exact Or.inl rfl | exact Or.inr (Or.inl rfl) | exact Or.inr (Or.inr rfl)))) (blkOk_by (own := [("tap", 2)]) (N := N_low_of) (sc := defScope (topS 28)) (by decide +kernel)) gs_nm (by simp [Tg.slots]) (fun _ _ _ _ _ => pg_name (i := 2) nd rfl (by first | exact Or.inl rfl | exact Or.inr rfl)) (fun _ _ _ _ _ => xts_nil) (fun _ _ _ _ _ => (x_bin op_mod s_mod (o_v (x_un un_neg s_neg (o_var (i := 2) rfl (by first | exact Or.inl rfl | exact Or.inr (Or.inl rfl) | exact Or.inr (Or.inr rfl))))) (o_var (i := 0) rfl (by first | exact Or.inl rfl | exact Or.inr (Or.inl rfl) | exact Or.inr (Or.inr rfl))))))))) xa_nil))))
theorem ok_fraction (T : Tx K mg fd) {n : Nat} (I : Ih P w K mg base fd n) : FnOk P w K mg base CX0 (n + 1) (He.ga K "fraction") (fd 13) P_fraction (spI K (run (n + 1) "fraction")) := by
  have nd := sc_fraction.nd
  rw [run_fraction]
  refine T.f_fraction.ok sc_fraction (fun vs H Q E h => spI_len rfl h) (fun cdv A outer s H vs Q E hr h => ⟨kS K (F_fraction (run n)).body, PSs.nox ?_, fn_read rfl (show (3 : Nat) ≤ 5 by decide) h⟩)
  exact (xb_cons (xs_ex (x_call I.i_check_wired hr (by rfl) T.g_check_wired T.k_check_wired T.b_check_wired pass0 (xa_cons (o_var (i := 0) rfl (by first | exact Or.inl rfl | exact Or.inr (Or.inl rfl) | exact Or.inr (Or.inr rfl))) (xa_cons (o_var (i := 1) rfl (by first | exact Or.inl rfl | exact Or.inr (Or.inl rfl) | exact Or.inr (Or.inr rfl))) (xa_cons (o_var (i := 2) rfl (by first | exact Or.inl rfl | exact Or.inr (Or.inl rfl) | exact Or.inr (Or.inr rfl))) xa_nil))))) (xb_cons (xs_set (i := 3) nd rfl (by first | exact Or.inl rfl | exact Or.inr rfl) (x_call I.i_low_of hr (by rfl) T.g_low_of T.k_low_of T.b_low_of pass0 (xa_cons (o_var (i := 0) rfl (by first | exact Or.inl rfl | exact Or.inr (Or.inl rfl) | exact Or.inr (Or.inr rfl))) (xa_cons (o_var (i := 1) rfl (by first | exact Or.inl rfl | exact Or.inr (Or.inl rfl) | exact Or.inr (Or.inr rfl))) xa_nil)))) (xb_cons (xs_set (i := 4) nd rfl (by first | exact Or.inl rfl | exact Or.inr rfl) (x_sl (o_v (x_call I.i_product_of hr (by rfl) T.g_product_of T.k_product_of T.b_product_of pass0 (xa_cons (o_var (i := 0) rfl (by first | exact Or.inl rfl | exact Or.inr (Or.inl rfl) | exact Or.inr (Or.inr rfl))) (xa_cons (o_var (i := 2) rfl (by first | exact Or.inl rfl | exact Or.inr (Or.inl rfl) | exact Or.inr (Or.inr rfl))) (xa_cons (o_var (i := 3) rfl (by first | exact Or.inl rfl | exact Or.inr (Or.inl rfl) | exact Or.inr (Or.inr rfl))) xa_nil))))) xp_none (xp_some (o_v (x_biB call_len_seq s_len (by rfl) T.m_len b_len (xa_cons (o_var (i := 1) rfl (by first | exact Or.inl rfl | exact Or.inr (Or.inl rfl) | exact Or.inr (Or.inr rfl))) xa_nil)))))) (xb_one (xs_ret (x_tup (xa_cons (o_v (x_call I.i_trimmed hr (by rfl) T.g_trimmed T.k_trimmed T.b_trimmed pass0 (xa_cons (o_var (i := 4) rfl (by first | exact Or.inl rfl | exact Or.inr (Or.inl rfl) | exact Or.inr (Or.inr rfl))) xa_nil))) (xa_cons (o_var (i := 3) rfl (by first | exact Or.inl rfl | exact Or.inr (Or.inl rfl) | exact Or.inr (Or.inr rfl))) xa_nil))))))))
theorem ok_expansion (T : Tx K mg fd) {n : Nat} (I : Ih P w K mg base fd n) : FnOk P w K mg base CX0 (n + 1) (He.ga K "expansion") (fd 14) P_expansion (spI K (run (n + 1) "expansion")) := by
  have nd := sc_expansion.nd
  rw [run_expansion]
  refine T.f_expansion.ok sc_expansion (fun vs H Q E h => spI_len rfl h) (fun cdv A outer s H vs Q E hr h => ⟨kS K (F_expansion (run n)).body, PSs.nox ?_, fn_read rfl (show (4 : Nat) ≤ 10 by decide) h⟩)
  exact (xb_cons (xs_ex (x_call I.i_check_prime hr (by rfl) T.g_check_prime T.k_check_prime T.b_check_prime pass0 (xa_cons (o_var (i := 0) rfl (by first | exact Or.inl rfl | exact Or.inr (Or.inl rfl) | exact Or.inr (Or.inr rfl))) xa_nil))) (xb_cons (xs_ex (x_call I.i_check_polynomial hr (by rfl) T.g_check_polynomial T.k_check_polynomial T.b_check_polynomial pass0 (xa_cons (o_var (i := 0) rfl (by first | exact Or.inl rfl | exact Or.inr (Or.inl rfl) | exact Or.inr (Or.inr rfl))) (xa_cons (o_var (i := 1) rfl (by first | exact Or.inl rfl | exact Or.inr (Or.inl rfl) | exact Or.inr (Or.inr rfl))) xa_nil)))) (xb_cons (xs_ex (x_call I.i_check_polynomial hr (by rfl) T.g_check_polynomial T.k_check_polynomial T.b_check_polynomial pass0 (xa_cons (o_var (i := 0) rfl (by first | exact Or.inl rfl | exact Or.inr (Or.inl rfl) | exact Or.inr (Or.inr rfl))) (xa_cons (o_var (i := 2) rfl (by first | exact Or.inl rfl | exact Or.inr (Or.inl rfl) | exact Or.inr (Or.inr rfl))) xa_nil)))) (xb_cons (xs_ex (x_call I.i_check_number hr (by rfl) T.g_check_number T.k_check_number T.b_check_number pass0 (xa_cons (o_var (i := 3) rfl (by first | exact Or.inl rfl | exact Or.inr (Or.inl rfl) | exact Or.inr (Or.inr rfl))) (xa_cons (o_v x_int) (xa_cons (o_v (x_globI (by rfl) T.c_MOST_NUMBERS)) xa_nil))))) (xb_cons (xs_if (PW.pt (x_or (x_not (x_truth (o_var (i := 2) rfl (by first | exact Or.inl rfl | exact Or.inr (Or.inl rfl) | exact Or.inr (Or.inr rfl))) (fun _ => rfl))) (pw_or1 (x_cmpT (op_eqD hr.units) s_eq (o_v (x_ix ix_any s_ix (o_var (i := 2) rfl (by first | exact Or.inl rfl | exact Or.inr (Or.inl rfl) | exact Or.inr (Or.inr rfl))) (o_v x_int) (fun _ _ => rfl))) (o_v x_int) (nomark _))))) (xb_one xs_never) xb_nil) (xb_cons (xs_set (i := 4) nd rfl (by first | exact Or.inl rfl | exact Or.inr rfl) (x_call I.i_inverse hr (by rfl) T.g_inverse T.k_inverse T.b_inverse pass0 (xa_cons (o_var (i := 0) rfl (by first | exact Or.inl rfl | exact Or.inr (Or.inl rfl) | exact Or.inr (Or.inr rfl))) (xa_cons (o_v (x_ix ix_any s_ix (o_var (i := 2) rfl (by first | exact Or.inl rfl | exact Or.inr (Or.inl rfl) | exact Or.inr (Or.inr rfl))) (o_v x_int) (fun _ _ => rfl))) xa_nil)))) (xb_cons (xs_set (i := 5) nd rfl (by first | exact Or.inl rfl | exact Or.inr rfl) (x_lst xa_nil)) (xb_cons (x_for PassesOwn.never rfl (xi_range1 (by rfl) T.m_range (o_var (i := 3) rfl (by first | exact Or.inl rfl | exact Or.inr (Or.inl rfl) | exact Or.inr (Or.inr rfl)))) (pg_name (i := 6) nd rfl (by first | exact Or.inl rfl | exact Or.inr rfl)) gs_nm (xb_cons (xs_set (i := 7) nd rfl (by first | exact Or.inl rfl | exact Or.inr rfl) (x_ite (x_cmpT op_lt s_lt (o_var (i := 6) rfl (by first | exact Or.inl rfl | exact Or.inr (Or.inl rfl) | exact Or.inr (Or.inr rfl))) (o_v (x_biB call_len_seq s_len (by rfl) T.m_len b_len (xa_cons (o_var (i := 1) rfl (by first | exact Or.inl rfl | exact Or.inr (Or.inl rfl) | exact Or.inr (Or.inr rfl))) xa_nil))) (nomark _)) (x_ix ix_any s_ix (o_var (i := 1) rfl (by first | exact Or.inl rfl | exact Or.inr (Or.inl rfl) | exact Or.inr (Or.inr rfl))) (o_var (i := 6) rfl (by first | exact Or.inl rfl | exact Or.inr (Or.inl rfl) | exact Or.inr (Or.inr rfl))) (fun _ _ => rfl)) x_int)) (xb_cons (xs_set (i := 8) nd rfl (by first | exact Or.inl rfl | exact Or.inr rfl) (x_biB (cr_sum rfl) s_sum (by rfl) T.m_sum b_sum (xa_cons (o_v (x_lc (own := [("back", 9)]) rfl nd (xi_range2 (by rfl) T.m_range (o_v x_int) (o_v (x_biB (call_min2 rfl) s_min2 (by rfl) T.m_min b_min (xa_cons (o_v (x_bin op_addA s_add (o_var (i := 6) rfl (by first | exact Or.inl rfl | exact Or.inr (Or.inl rfl) | exact Or.inr (Or.inr rfl))) (o_v x_int))) (xa_cons (o_v (x_biB call_len_seq s_len (by rfl) T.m_len b_len (xa_cons (o_var (i := 2) rfl (by first | exact Or.inl rfl | exact Or.inr (Or.inl rfl) | exact Or.inr (Or.inr rfl))) xa_nil))) xa_nil))))) (blkOk_by (own := [("back", 9)]) (N := N_expansion) (sc := defScope (topS 31)) (by decide +kernel)) gs_nm (by simp [Tg.slots]) (fun _ _ _ _ _ => pg_name (i := 9) nd rfl (by first | exact Or.inl rfl | exact Or.inr rfl)) (fun _ _ _ _ _ => xts_nil) (fun _ _ _ _ _ => (x_bin op_mulA s_mul (o_v (x_ix ix_any s_ix (o_var (i := 2) rfl (by first | exact Or.inl rfl | exact Or.inr (Or.inl rfl) | exact Or.inr (Or.inr rfl))) (o_var (i := 9) rfl (by first | exact Or.inl rfl | exact Or.inr (Or.inl rfl) | exact Or.inr (Or.inr rfl))) (fun _ _ => rfl))) (o_v (x_ix ix_any s_ix (o_var (i := 5) rfl (by first | exact Or.inl rfl | exact Or.inr (Or.inl rfl) | exact Or.inr (Or.inr rfl))) (o_v (x_bin op_sub s_sub (o_var (i := 6) rfl (by first | exact Or.inl rfl | exact Or.inr (Or.inl rfl) | exact Or.inr (Or.inr rfl))) (o_var (i := 9) rfl (by first | exact Or.inl rfl | exact Or.inr (Or.inl rfl) | exact Or.inr (Or.inr rfl))))) (fun _ _ => rfl))))))) xa_nil))) (xb_one (xs_app (i := 5) (pe_var (i := 5) rfl (by first | exact Or.inl rfl | exact Or.inr (Or.inl rfl) | exact Or.inr (Or.inr rfl))) (x_bin op_mod s_mod (o_v (x_bin op_mulA s_mul (o_v (x_bin op_sub s_sub (o_var (i := 7) rfl (by first | exact Or.inl rfl | exact Or.inr (Or.inl rfl) | exact Or.inr (Or.inr rfl))) (o_var (i := 8) rfl (by first | exact Or.inl rfl | exact Or.inr (Or.inl rfl) | exact Or.inr (Or.inr rfl))))) (o_var (i := 4) rfl (by first | exact Or.inl rfl | exact Or.inr (Or.inl rfl) | exact Or.inr (Or.inr rfl))))) (o_var (i := 0) rfl (by first | exact Or.inl rfl | exact Or.inr (Or.inl rfl) | exact Or.inr (Or.inr rfl))))))))) (xb_one (xs_ret (x_biT call_tuple_of s_tupO (by rfl) T.m_tuple b_tuple (xa_cons (o_var (i := 5) rfl (by first | exact Or.inl rfl | exact Or.inr (Or.inl rfl) | exact Or.inr (Or.inr rfl))) xa_nil))))))))))))
theorem ok__law_taken (T : Tx K mg fd) {n : Nat} (I : Ih P w K mg base fd n) : FnOk P w K mg base CX0 (n + 1) (He.ga K "_law_taken") (fd 15) P__law_taken (spI K (run (n + 1) "_law_taken")) := by
  have nd := sc__law_taken.nd
  rw [run__law_taken]
  refine T.f__law_taken.ok sc__law_taken (fun vs H Q E h => spI_len rfl h) (fun cdv A outer s H vs Q E hr h => ⟨kS K (F__law_taken (run n)).body, PSs.nox ?_, fn_read rfl (show (2 : Nat) ≤ 4 by decide) h⟩)
  exact (xb_cons (xs_if (x_cmpT op_gt s_gt (o_v (x_ix ix_any s_ix (o_var (i := 0) rfl (by first | exact Or.inl rfl | exact Or.inr (Or.inl rfl) | exact Or.inr (Or.inr rfl))) (o_v x_int) (fun _ _ => rfl))) (o_v x_int) (nomark _)) (xb_cons (xs_set (i := 2) nd rfl (by first | exact Or.inl rfl | exact Or.inr rfl) (x_bin op_mod s_mod (o_v (x_biT call_int1 s_int1 (by rfl) T.m_int b_int (xa_cons (o_v (x_ix ix_any s_ix (o_var (i := 0) rfl (by first | exact Or.inl rfl | exact Or.inr (Or.inl rfl) | exact Or.inr (Or.inr rfl))) (o_v x_int) (fun _ _ => rfl))) xa_nil))) (o_var (i := 1) rfl (by first | exact Or.inl rfl | exact Or.inr (Or.inl rfl) | exact Or.inr (Or.inr rfl))))) (xb_cons (xs_setIx (i := 0) (pe_var (i := 0) rfl (by first | exact Or.inl rfl | exact Or.inr (Or.inl rfl) | exact Or.inr (Or.inr rfl))) (o_v x_int) (o_v (x_bin op_fdivA s_fdiv (o_v (x_ix ix_any s_ix (o_var (i := 0) rfl (by first | exact Or.inl rfl | exact Or.inr (Or.inl rfl) | exact Or.inr (Or.inr rfl))) (o_v x_int) (fun _ _ => rfl))) (o_var (i := 1) rfl (by first | exact Or.inl rfl | exact Or.inr (Or.inl rfl) | exact Or.inr (Or.inr rfl)))))) (xb_one (xs_ret (x_var (i := 2) rfl (by first | exact Or.inl rfl | exact Or.inr (Or.inl rfl) | exact Or.inr (Or.inr rfl))))))) xb_nil) (xb_cons (xs_setIx (i := 0) (pe_var (i := 0) rfl (by first | exact Or.inl rfl | exact Or.inr (Or.inl rfl) | exact Or.inr (Or.inr rfl))) (o_v x_int) (o_v (x_bin op_addA s_add (o_v (x_ix ix_any s_ix (o_var (i := 0) rfl (by first | exact Or.inl rfl | exact Or.inr (Or.inl rfl) | exact Or.inr (Or.inr rfl))) (o_v x_int) (fun _ _ => rfl))) (o_v x_int)))) (xb_cons (xs_if (x_cmpT op_gt s_gt (o_v (x_ix ix_any s_ix (o_var (i := 0) rfl (by first | exact Or.inl rfl | exact Or.inr (Or.inl rfl) | exact Or.inr (Or.inr rfl))) (o_v x_int) (fun _ _ => rfl))) (o_v (x_biB call_len_seq s_len (by rfl) T.m_len b_len (xa_cons (o_v (x_ix ix_any s_ix (o_var (i := 0) rfl (by first | exact Or.inl rfl | exact Or.inr (Or.inl rfl) | exact Or.inr (Or.inr rfl))) (o_v x_int) (fun _ _ => rfl))) xa_nil))) (nomark _)) (xb_cons (xs_setIx (i := 0) (pe_var (i := 0) rfl (by first | exact Or.inl rfl | exact Or.inr (Or.inl rfl) | exact Or.inr (Or.inr rfl))) (o_v x_int) (o_v (x_bin op_mod s_mod (o_v (x_biT call_int1 s_int1 (by rfl) T.m_int b_int (xa_cons (o_v (x_bin op_addA s_add (o_v (x_bin op_mulA s_mul (o_v (x_ix ix_any s_ix (o_var (i := 0) rfl (by first | exact Or.inl rfl | exact Or.inr (Or.inl rfl) | exact Or.inr (Or.inr rfl))) (o_v x_int) (fun _ _ => rfl))) (o_v x_int))) (o_v x_int))) xa_nil))) (o_v x_int)))) (xb_one (xs_ret (x_bin op_mod s_mod (o_v (x_biT call_int1 s_int1 (by rfl) T.m_int b_int (xa_cons (o_v (x_bin op_fdivA s_fdiv (o_v (x_ix ix_any s_ix (o_var (i := 0) rfl (by first | exact Or.inl rfl | exact Or.inr (Or.inl rfl) | exact Or.inr (Or.inr rfl))) (o_v x_int) (fun _ _ => rfl))) (o_v x_int))) xa_nil))) (o_var (i := 1) rfl (by first | exact Or.inl rfl | exact Or.inr (Or.inl rfl) | exact Or.inr (Or.inr rfl))))))) xb_nil) (xb_cons (xs_set (i := 3) nd rfl (by first | exact Or.inl rfl | exact Or.inr rfl) (x_ix ix_any s_ix (o_v (x_ix ix_any s_ix (o_var (i := 0) rfl (by first | exact Or.inl rfl | exact Or.inr (Or.inl rfl) | exact Or.inr (Or.inr rfl))) (o_v x_int) (fun _ _ => rfl))) (o_v (x_bin op_sub s_sub (o_v (x_ix ix_any s_ix (o_var (i := 0) rfl (by first | exact Or.inl rfl | exact Or.inr (Or.inl rfl) | exact Or.inr (Or.inr rfl))) (o_v x_int) (fun _ _ => rfl))) (o_v x_int))) (fun _ _ => rfl))) (xb_cons (xs_setIx (i := 0) (pe_var (i := 0) rfl (by first | exact Or.inl rfl | exact Or.inr (Or.inl rfl) | exact Or.inr (Or.inr rfl))) (o_v x_int) (o_v (x_bin op_mod s_mod (o_v (x_biT call_int1 s_int1 (by rfl) T.m_int b_int (xa_cons (o_v (x_bin op_addA s_add (o_v (x_bin op_addA s_add (o_v (x_bin op_mulA s_mul (o_v (x_ix ix_any s_ix (o_var (i := 0) rfl (by first | exact Or.inl rfl | exact Or.inr (Or.inl rfl) | exact Or.inr (Or.inr rfl))) (o_v x_int) (fun _ _ => rfl))) (o_v x_int))) (o_var (i := 3) rfl (by first | exact Or.inl rfl | exact Or.inr (Or.inl rfl) | exact Or.inr (Or.inr rfl))))) (o_v x_int))) xa_nil))) (o_v x_int)))) (xb_cons (xs_if (x_cmpT op_ge s_ge (o_var (i := 3) rfl (by first | exact Or.inl rfl | exact Or.inr (Or.inl rfl) | exact Or.inr (Or.inr rfl))) (o_v (x_bin op_pow s_pow (o_v x_int) (o_v x_int))) (nomark _)) (xb_one (xs_setIx (i := 0) (pe_var (i := 0) rfl (by first | exact Or.inl rfl | exact Or.inr (Or.inl rfl) | exact Or.inr (Or.inr rfl))) (o_v x_int) (o_v (x_bin op_fdivA s_fdiv (o_var (i := 3) rfl (by first | exact Or.inl rfl | exact Or.inr (Or.inl rfl) | exact Or.inr (Or.inr rfl))) (o_var (i := 1) rfl (by first | exact Or.inl rfl | exact Or.inr (Or.inl rfl) | exact Or.inr (Or.inr rfl))))))) xb_nil) (xb_one (xs_ret (x_bin op_mod s_mod (o_v (x_biT call_int1 s_int1 (by rfl) T.m_int b_int (xa_cons (o_var (i := 3) rfl (by first | exact Or.inl rfl | exact Or.inr (Or.inl rfl) | exact Or.inr (Or.inr rfl))) xa_nil))) (o_var (i := 1) rfl (by first | exact Or.inl rfl | exact Or.inr (Or.inl rfl) | exact Or.inr (Or.inr rfl))))))))))))
theorem ok__law_pick (T : Tx K mg fd) {n : Nat} (I : Ih P w K mg base fd n) : FnOk P w K mg base CX0 (n + 1) (He.ga K "_law_pick") (fd 16) P__law_pick (spI K (run (n + 1) "_law_pick")) := by
  have nd := sc__law_pick.nd
  rw [run__law_pick]
  refine T.f__law_pick.ok sc__law_pick (fun vs H Q E h => spI_len rfl h) (fun cdv A outer s H vs Q E hr h => ⟨kS K (F__law_pick (run n)).body, PSs.nox ?_, fn_read rfl (show (2 : Nat) ≤ 2 by decide) h⟩)
  exact (xb_one (xs_ret (x_ix ix_any s_ix (o_var (i := 1) rfl (by first | exact Or.inl rfl | exact Or.inr (Or.inl rfl) | exact Or.inr (Or.inr rfl))) (o_v (x_callR (i := 0) I.i__law_taken hr (by rfl) T.g__law_taken T.k__law_taken T.b__law_taken pass0 (pe_var (i := 0) rfl (by first | exact Or.inl rfl | exact Or.inr (Or.inl rfl) | exact Or.inr (Or.inr rfl))) (xa_cons (o_v (x_biB call_len_seq s_len (by rfl) T.m_len b_len (xa_cons (o_var (i := 1) rfl (by first | exact Or.inl rfl | exact Or.inr (Or.inl rfl) | exact Or.inr (Or.inr rfl))) xa_nil))) xa_nil))) (fun _ _ => rfl))))
theorem ok__law_prime (T : Tx K mg fd) {n : Nat} (I : Ih P w K mg base fd n) : FnOk P w K mg base CX0 (n + 1) (He.ga K "_law_prime") (fd 17) P__law_prime (spI K (run (n + 1) "_law_prime")) := by
  have nd := sc__law_prime.nd
  rw [run__law_prime]
  refine T.f__law_prime.ok sc__law_prime (fun vs H Q E h => spI_len rfl h) (fun cdv A outer s H vs Q E hr h => ⟨kS K (F__law_prime (run n)).body, PSs.nox ?_, fn_read rfl (show (1 : Nat) ≤ 1 by decide) h⟩)
  exact (xb_one (xs_ret (x_callR (i := 0) I.i__law_pick hr (by rfl) T.g__law_pick T.k__law_pick T.b__law_pick pass0 (pe_var (i := 0) rfl (by first | exact Or.inl rfl | exact Or.inr (Or.inl rfl) | exact Or.inr (Or.inr rfl))) (xa_cons (o_v (x_lst (xa_cons (o_v x_int) (xa_cons (o_v x_int) (xa_cons (o_v x_int) (xa_cons (o_v x_int) (xa_cons (o_v x_int) xa_nil))))))) xa_nil))))
theorem ok__law_taps (T : Tx K mg fd) {n : Nat} (I : Ih P w K mg base fd n) : FnOk P w K mg base CX0 (n + 1) (He.ga K "_law_taps") (fd 18) P__law_taps (spI K (run (n + 1) "_law_taps")) := by
  have nd := sc__law_taps.nd
  rw [run__law_taps]
  refine T.f__law_taps.ok sc__law_taps (fun vs H Q E h => spI_len rfl h) (fun cdv A outer s H vs Q E hr h => ⟨kS K (F__law_taps (run n)).body, PSs.nox ?_, fn_read rfl (show (3 : Nat) ≤ 6 by decide) h⟩)
  exact (xb_cons (xs_set (i := 3) nd rfl (by first | exact Or.inl rfl | exact Or.inr rfl) (x_callR (i := 0) I.i__law_taken hr (by rfl) T.g__law_taken T.k__law_taken T.b__law_taken pass0 (pe_var (i := 0) rfl (by first | exact Or.inl rfl | exact Or.inr (Or.inl rfl) | exact Or.inr (Or.inr rfl))) (xa_cons (o_v (x_bin op_addA s_add (o_var (i := 2) rfl (by first | exact Or.inl rfl | exact Or.inr (Or.inl rfl) | exact Or.inr (Or.inr rfl))) (o_v x_int))) xa_nil))) (xb_cons (xs_set (i := 4) nd rfl (by first | exact Or.inl rfl | exact Or.inr rfl) (x_biT call_tuple_of s_tupO (by rfl) T.m_tuple b_tuple (xa_cons (o_v (x_lc (own := [("at", 5)]) rfl nd (xi_range1 (by rfl) T.m_range (o_var (i := 3) rfl (by first | exact Or.inl rfl | exact Or.inr (Or.inl rfl) | exact Or.inr (Or.inr rfl)))) (blkOk_by (own := [("at", 5)]) (N := N__law_taps) (sc := defScope (topS 36)) (by decide +kernel)) gs_nm (by simp [Tg.slots]) (fun _ _ _ _ _ => pg_name (i := 5) nd rfl (by first | exact Or.inl rfl | exact Or.inr rfl)) (fun _ _ _ _ _ => xts_nil) (fun _ _ _ _ _ => (x_callR (i := 0) I.i__law_taken hr (by rfl) T.g__law_taken T.k__law_taken T.b__law_taken pass0 (pe_var (i := 0) rfl (by first | exact Or.inl rfl | exact Or.inr (Or.inl rfl) | exact Or.inr (Or.inr rfl))) (xa_cons (o_var (i := 1) rfl (by first | exact Or.inl rfl | exact Or.inr (Or.inl rfl) | exact Or.inr (Or.inr rfl))) xa_nil))))) xa_nil))) (xb_one (xs_ret (x_tup (xa_cons (o_var (i := 4) rfl (by first | exact Or.inl rfl | exact Or.inr (Or.inl rfl) | exact Or.inr (Or.inr rfl))) (xa_cons (o_v (x_biT call_tuple_of s_tupO (by rfl) T.m_tuple b_tuple (xa_cons (o_v (x_lc (own := [("at", 5)]) rfl nd (xi_range1 (by rfl) T.m_range (o_var (i := 3) rfl (by first | exact Or.inl rfl | exact Or.inr (Or.inl rfl) | exact Or.inr (Or.inr rfl)))) (blkOk_by (own := [("at", 5)]) (N := N__law_taps) (sc := defScope (topS 36)) (by decide +kernel)) gs_nm (by simp [Tg.slots]) (fun _ _ _ _ _ => pg_name (i := 5) nd rfl (by first | exact Or.inl rfl | exact Or.inr rfl)) (fun _ _ _ _ _ => xts_nil) (fun _ _ _ _ _ => (x_callR (i := 0) I.i__law_taken hr (by rfl) T.g__law_taken T.k__law_taken T.b__law_taken pass0 (pe_var (i := 0) rfl (by first | exact Or.inl rfl | exact Or.inr (Or.inl rfl) | exact Or.inr (Or.inr rfl))) (xa_cons (o_var (i := 1) rfl (by first | exact Or.inl rfl | exact Or.inr (Or.inl rfl) | exact Or.inr (Or.inr rfl))) xa_nil))))) xa_nil))) xa_nil)))))))
theorem ok__law_trim (T : Tx K mg fd) {n : Nat} (I : Ih P w K mg base fd n) : FnOk P w K mg base CX0 (n + 1) (He.ga K "_law_trim") (fd 19) P__law_trim (spI K (run (n + 1) "_law_trim")) := by
  have nd := sc__law_trim.nd
  rw [run__law_trim]
  refine T.f__law_trim.ok sc__law_trim (fun vs H Q E h => spI_len rfl h) (fun cdv A outer s H vs Q E hr h => ⟨kS K (F__law_trim (run n)).body, PSs.nox ?_, fn_read rfl (show (1 : Nat) ≤ 3 by decide) h⟩)
  exact (xb_cons (xs_set (i := 1) nd rfl (by first | exact Or.inl rfl | exact Or.inr rfl) (x_biT call_list_of s_lstO (by rfl) T.m_list b_list (xa_cons (o_var (i := 0) rfl (by first | exact Or.inl rfl | exact Or.inr (Or.inl rfl) | exact Or.inr (Or.inr rfl))) xa_nil))) (xb_cons (x_for PassesOwn.never rfl (xi_range1 (by rfl) T.m_range (o_v (x_biB call_len_seq s_len (by rfl) T.m_len b_len (xa_cons (o_var (i := 1) rfl (by first | exact Or.inl rfl | exact Or.inr (Or.inl rfl) | exact Or.inr (Or.inr rfl))) xa_nil)))) (pg_name (i := 2) nd rfl (by first | exact Or.inl rfl | exact Or.inr rfl)) gs_nm (xb_one (xs_if (x_cmpT (op_eqD hr.units) s_eq (o_v (x_sl (o_var (i := 1) rfl (by first | exact Or.inl rfl | exact Or.inr (Or.inl rfl) | exact Or.inr (Or.inr rfl))) (xp_some (o_v (x_un un_neg s_neg (o_v x_int)))) xp_none)) (o_v (x_lst (xa_cons (o_v x_int) xa_nil))) (nomark _)) (xb_one (xs_pop (i := 1) (pe_var (i := 1) rfl (by first | exact Or.inl rfl | exact Or.inr (Or.inl rfl) | exact Or.inr (Or.inr rfl))))) xb_nil))) (xb_one (xs_ret (x_biT call_tuple_of s_tupO (by rfl) T.m_tuple b_tuple (xa_cons (o_var (i := 1) rfl (by first | exact Or.inl rfl | exact Or.inr (Or.inl rfl) | exact Or.inr (Or.inr rfl))) xa_nil))))))
theorem ok__law_times (T : Tx K mg fd) {n : Nat} (I : Ih P w K mg base fd n) : FnOk P w K mg base CX0 (n + 1) (He.ga K "_law_times") (fd 20) P__law_times (spI K (run (n + 1) "_law_times")) := by
  have nd := sc__law_times.nd
  rw [run__law_times]
  refine T.f__law_times.ok sc__law_times (fun vs H Q E h => spI_len rfl h) (fun cdv A outer s H vs Q E hr h => ⟨kS K (F__law_times (run n)).body, PSs.nox ?_, fn_read rfl (show (3 : Nat) ≤ 6 by decide) h⟩)
  exact (xb_cons (xs_set (i := 3) nd rfl (by first | exact Or.inl rfl | exact Or.inr rfl) (x_bin op_mulA s_mul (o_v (x_lst (xa_cons (o_v x_int) xa_nil))) (o_v (x_bin op_addA s_add (o_v (x_biB call_len_seq s_len (by rfl) T.m_len b_len (xa_cons (o_var (i := 1) rfl (by first | exact Or.inl rfl | exact Or.inr (Or.inl rfl) | exact Or.inr (Or.inr rfl))) xa_nil))) (o_v (x_biB call_len_seq s_len (by rfl) T.m_len b_len (xa_cons (o_var (i := 2) rfl (by first | exact Or.inl rfl | exact Or.inr (Or.inl rfl) | exact Or.inr (Or.inr rfl))) xa_nil))))))) (xb_cons (x_for PassesOwn.never rfl (xi_range1 (by rfl) T.m_range (o_v (x_biB call_len_seq s_len (by rfl) T.m_len b_len (xa_cons (o_var (i := 1) rfl (by first | exact Or.inl rfl | exact Or.inr (Or.inl rfl) | exact Or.inr (Or.inr rfl))) xa_nil)))) (pg_name (i := 4) nd rfl (by first | exact Or.inl rfl | exact Or.inr rfl)) gs_nm (xb_one (x_for PassesOwn.never rfl (xi_range1 (by rfl) T.m_range (o_v (x_biB call_len_seq s_len (by rfl) T.m_len b_len (xa_cons (o_var (i := 2) rfl (by first | exact Or.inl rfl | exact Or.inr (Or.inl rfl) | exact Or.inr (Or.inr rfl))) xa_nil)))) (pg_name (i := 5) nd rfl (by first | exact Or.inl rfl | exact Or.inr rfl)) gs_nm (xb_one (xs_setIx (i := 3) (pe_var (i := 3) rfl (by first | exact Or.inl rfl | exact Or.inr (Or.inl rfl) | exact Or.inr (Or.inr rfl))) (o_v (x_bin op_addA s_add (o_var (i := 4) rfl (by first | exact Or.inl rfl | exact Or.inr (Or.inl rfl) | exact Or.inr (Or.inr rfl))) (o_var (i := 5) rfl (by first | exact Or.inl rfl | exact Or.inr (Or.inl rfl) | exact Or.inr (Or.inr rfl))))) (o_v (x_bin op_mod s_mod (o_v (x_biT call_int1 s_int1 (by rfl) T.m_int b_int (xa_cons (o_v (x_bin op_addA s_add (o_v (x_ix ix_any s_ix (o_var (i := 3) rfl (by first | exact Or.inl rfl | exact Or.inr (Or.inl rfl) | exact Or.inr (Or.inr rfl))) (o_v (x_bin op_addA s_add (o_var (i := 4) rfl (by first | exact Or.inl rfl | exact Or.inr (Or.inl rfl) | exact Or.inr (Or.inr rfl))) (o_var (i := 5) rfl (by first | exact Or.inl rfl | exact Or.inr (Or.inl rfl) | exact Or.inr (Or.inr rfl))))) (fun _ _ => rfl))) (o_v (x_bin op_mulA s_mul (o_v (x_ix ix_any s_ix (o_var (i := 1) rfl (by first | exact Or.inl rfl | exact Or.inr (Or.inl rfl) | exact Or.inr (Or.inr rfl))) (o_var (i := 4) rfl (by first | exact Or.inl rfl | exact Or.inr (Or.inl rfl) | exact Or.inr (Or.inr rfl))) (fun _ _ => rfl))) (o_v (x_ix ix_any s_ix (o_var (i := 2) rfl (by first | exact Or.inl rfl | exact Or.inr (Or.inl rfl) | exact Or.inr (Or.inr rfl))) (o_var (i := 5) rfl (by first | exact Or.inl rfl | exact Or.inr (Or.inl rfl) | exact Or.inr (Or.inr rfl))) (fun _ _ => rfl))))))) xa_nil))) (o_var (i := 0) rfl (by first | exact Or.inl rfl | exact Or.inr (Or.inl rfl) | exact Or.inr (Or.inr rfl)))))))))) (xb_one (xs_ret (x_call I.i__law_trim hr (by rfl) T.g__law_trim T.k__law_trim T.b__law_trim pass0 (xa_cons (o_var (i := 3) rfl (by first | exact Or.inl rfl | exact Or.inr (Or.inl rfl) | exact Or.inr (Or.inr rfl))) xa_nil))))))
theorem ok__law_alike (T : Tx K mg fd) {n : Nat} (I : Ih P w K mg base fd n) : FnOk P w K mg base CX0 (n + 1) (He.ga K "_law_alike") (fd 21) P__law_alike (spI K (run (n + 1) "_law_alike")) := by
  have nd := sc__law_alike.nd
  rw [run__law_alike]
  refine T.f__law_alike.ok sc__law_alike (fun vs H Q E h => spI_len rfl h) (fun cdv A outer s H vs Q E hr h => ⟨kS K (F__law_alike (run n)).body, PSs.nox ?_, fn_read rfl (show (2 : Nat) ≤ 3 by decide) h⟩)
  exact (xb_cons (xs_if (x_truth (o_v (x_isiT (by simp) (by decide) (o_var (i := 1) rfl (by first | exact Or.inl rfl | exact Or.inr (Or.inl rfl) | exact Or.inr (Or.inr rfl))) (by rfl) T.m_isinstance b_isinstance (xty_cons (t := .tuple) (by rfl) T.m_tuple b_tuple (xty_cons (t := .list) (by rfl) T.m_list b_list xty_nil)))) (fun _ => rfl)) (xb_cons (xs_if (PW.pt (x_or (x_not (x_truth (o_v (x_isiT (by simp) (by decide) (o_var (i := 0) rfl (by first | exact Or.inl rfl | exact Or.inr (Or.inl rfl) | exact Or.inr (Or.inr rfl))) (by rfl) T.m_isinstance b_isinstance (xty_cons (t := .tuple) (by rfl) T.m_tuple b_tuple (xty_cons (t := .list) (by rfl) T.m_list b_list xty_nil)))) (fun _ => rfl))) (pw_or1 (x_cmpT (op_neD hr.units) s_ne (o_v (x_isi1 (t := .list) (o_var (i := 0) rfl (by first | exact Or.inl rfl | exact Or.inr (Or.inl rfl) | exact Or.inr (Or.inr rfl))) (by rfl) T.m_isinstance b_isinstance (by rfl) T.m_list b_list)) (o_v (x_isi1 (t := .list) (o_var (i := 1) rfl (by first | exact Or.inl rfl | exact Or.inr (Or.inl rfl) | exact Or.inr (Or.inr rfl))) (by rfl) T.m_isinstance b_isinstance (by rfl) T.m_list b_list)) (nomark _))))) (xb_one (xs_ret x_bl)) xb_nil) (xb_cons (xs_if (x_cmpT (op_neD hr.units) s_ne (o_v (x_biB call_len_seq s_len (by rfl) T.m_len b_len (xa_cons (o_var (i := 0) rfl (by first | exact Or.inl rfl | exact Or.inr (Or.inl rfl) | exact Or.inr (Or.inr rfl))) xa_nil))) (o_v (x_biB call_len_seq s_len (by rfl) T.m_len b_len (xa_cons (o_var (i := 1) rfl (by first | exact Or.inl rfl | exact Or.inr (Or.inl rfl) | exact Or.inr (Or.inr rfl))) xa_nil))) (nomark _)) (xb_one (xs_ret x_bl)) xb_nil) (xb_one (xs_ret (x_cmp (op_eqD hr.units) s_eq (o_v (x_lc (own := [("k", 2)]) rfl nd (xi_range1 (by rfl) T.m_range (o_v (x_biB call_len_seq s_len (by rfl) T.m_len b_len (xa_cons (o_var (i := 1) rfl (by first | exact Or.inl rfl | exact Or.inr (Or.inl rfl) | exact Or.inr (Or.inr rfl))) xa_nil)))) (blkOk_by (own := [("k", 2)]) (N := N__law_alike) (sc := defScope (topS 39)) (by decide +kernel)) gs_nm (by simp [Tg.slots]) (fun _ _ _ _ _ => pg_name (i := 2) nd rfl (by first | exact Or.inl rfl | exact Or.inr rfl)) (fun _ _ _ _ _ => (xts_one (x_not (x_truth (o_v (x_call I.i__law_alike hr (by rfl) T.g__law_alike T.k__law_alike T.b__law_alike pass0 (xa_cons (o_v (x_ix ix_any s_ix (o_var (i := 0) rfl (by first | exact Or.inl rfl | exact Or.inr (Or.inl rfl) | exact Or.inr (Or.inr rfl))) (o_var (i := 2) rfl (by first | exact Or.inl rfl | exact Or.inr (Or.inl rfl) | exact Or.inr (Or.inr rfl))) (fun _ _ => rfl))) (xa_cons (o_v (x_ix ix_any s_ix (o_var (i := 1) rfl (by first | exact Or.inl rfl | exact Or.inr (Or.inl rfl) | exact Or.inr (Or.inr rfl))) (o_var (i := 2) rfl (by first | exact Or.inl rfl | exact Or.inr (Or.inl rfl) | exact Or.inr (Or.inr rfl))) (fun _ _ => rfl))) xa_nil)))) (fun _ => rfl))))) (fun _ _ _ _ _ => (x_var (i := 2) rfl (by first | exact Or.inl rfl | exact Or.inr (Or.inl rfl) | exact Or.inr (Or.inr rfl)))))) (o_v (x_lst xa_nil)) (nomark _)))))) xb_nil) (xb_cons (xs_if (PW.pt (x_or (x_isNT (o_var (i := 1) rfl (by first | exact Or.inl rfl | exact Or.inr (Or.inl rfl) | exact Or.inr (Or.inr rfl)))) (pw_or1 (x_truth (o_v (x_isi1 (t := .str) (o_var (i := 1) rfl (by first | exact Or.inl rfl | exact Or.inr (Or.inl rfl) | exact Or.inr (Or.inr rfl))) (by rfl) T.m_isinstance b_isinstance (by rfl) T.m_str b_str)) (fun _ => rfl))))) (xb_one (xs_ret (x_andV (x_cmp (op_eqD hr.units) s_eq (o_var (i := 0) rfl (by first | exact Or.inl rfl | exact Or.inr (Or.inl rfl) | exact Or.inr (Or.inr rfl))) (o_var (i := 1) rfl (by first | exact Or.inl rfl | exact Or.inr (Or.inl rfl) | exact Or.inr (Or.inr rfl))) (nomark _)) (pe_one (x_cmp (op_eqD hr.units) s_eq (o_v (x_isi1 (t := .str) (o_var (i := 0) rfl (by first | exact Or.inl rfl | exact Or.inr (Or.inl rfl) | exact Or.inr (Or.inr rfl))) (by rfl) T.m_isinstance b_isinstance (by rfl) T.m_str b_str)) (o_v (x_isi1 (t := .str) (o_var (i := 1) rfl (by first | exact Or.inl rfl | exact Or.inr (Or.inl rfl) | exact Or.inr (Or.inr rfl))) (by rfl) T.m_isinstance b_isinstance (by rfl) T.m_str b_str)) (nomark _)))))) xb_nil) (xb_one (xs_ret (x_andV (x_isi1 (t := .int) (o_var (i := 0) rfl (by first | exact Or.inl rfl | exact Or.inr (Or.inl rfl) | exact Or.inr (Or.inr rfl))) (by rfl) T.m_isinstance b_isinstance (by rfl) T.m_int b_int) (x_andV (x_cmp (op_eqD hr.units) s_eq (o_v (x_isi1 (t := .bool) (o_var (i := 0) rfl (by first | exact Or.inl rfl | exact Or.inr (Or.inl rfl) | exact Or.inr (Or.inr rfl))) (by rfl) T.m_isinstance b_isinstance (by rfl) T.m_bool b_bool)) (o_v (x_isi1 (t := .bool) (o_var (i := 1) rfl (by first | exact Or.inl rfl | exact Or.inr (Or.inl rfl) | exact Or.inr (Or.inr rfl))) (by rfl) T.m_isinstance b_isinstance (by rfl) T.m_bool b_bool)) (nomark _)) (pe_one (x_cmp (op_eqD hr.units) s_eq (o_var (i := 0) rfl (by first | exact Or.inl rfl | exact Or.inr (Or.inl rfl) | exact Or.inr (Or.inr rfl))) (o_var (i := 1) rfl (by first | exact Or.inl rfl | exact Or.inr (Or.inl rfl) | exact Or.inr (Or.inr rfl))) (nomark _)))))))))
theorem ok__law_run (T : Tx K mg fd) {n : Nat} (I : Ih P w K mg base fd n) : FnOk P w K mg base CX0 (n + 1) (He.ga K "_law_run") (fd 22) P__law_run (spI K (run (n + 1) "_law_run")) := by
  have nd := sc__law_run.nd
  rw [run__law_run]
  refine T.f__law_run.ok sc__law_run (fun vs H Q E h => spI_len rfl h) (fun cdv A outer s H vs Q E hr h => ⟨kS K (F__law_run (run n)).body, PSs.nox ?_, fn_read rfl (show (4 : Nat) ≤ 7 by decide) h⟩)
  exact (xb_cons (xs_set (i := 4) nd rfl (by first | exact Or.inl rfl | exact Or.inr rfl) (x_biT call_list_of s_lstO (by rfl) T.m_list b_list (xa_cons (o_var (i := 2) rfl (by first | exact Or.inl rfl | exact Or.inr (Or.inl rfl) | exact Or.inr (Or.inr rfl))) xa_nil))) (xb_cons (x_for PassesOwn.never rfl (xi_range2 (by rfl) T.m_range (o_v (x_biB call_len_seq s_len (by rfl) T.m_len b_len (xa_cons (o_var (i := 1) rfl (by first | exact Or.inl rfl | exact Or.inr (Or.inl rfl) | exact Or.inr (Or.inr rfl))) xa_nil))) (o_var (i := 3) rfl (by first | exact Or.inl rfl | exact Or.inr (Or.inl rfl) | exact Or.inr (Or.inr rfl)))) (pg_name (i := 5) nd rfl (by first | exact Or.inl rfl | exact Or.inr rfl)) gs_nm (xb_one (xs_app (i := 4) (pe_var (i := 4) rfl (by first | exact Or.inl rfl | exact Or.inr (Or.inl rfl) | exact Or.inr (Or.inr rfl))) (x_bin op_mod s_mod (o_v (x_biT call_int1 s_int1 (by rfl) T.m_int b_int (xa_cons (o_v (x_biB (cr_sum rfl) s_sum (by rfl) T.m_sum b_sum (xa_cons (o_v (x_lc (own := [("k", 6)]) rfl nd (xi_range1 (by rfl) T.m_range (o_v (x_biB call_len_seq s_len (by rfl) T.m_len b_len (xa_cons (o_var (i := 1) rfl (by first | exact Or.inl rfl | exact Or.inr (Or.inl rfl) | exact Or.inr (Or.inr rfl))) xa_nil)))) (blkOk_by (own := [("k", 6)]) (N := N__law_run) (sc := defScope (topS 40)) (by decide +kernel)) gs_nm (by simp [Tg.slots]) (fun _ _ _ _ _ => pg_name (i := 6) nd rfl (by first | exact Or.inl rfl | exact Or.inr rfl)) (fun _ _ _ _ _ => xts_nil) (fun _ _ _ _ _ => (x_bin op_mulA s_mul (o_v (x_ix ix_any s_ix (o_var (i := 1) rfl (by first | exact Or.inl rfl | exact Or.inr (Or.inl rfl) | exact Or.inr (Or.inr rfl))) (o_var (i := 6) rfl (by first | exact Or.inl rfl | exact Or.inr (Or.inl rfl) | exact Or.inr (Or.inr rfl))) (fun _ _ => rfl))) (o_v (x_ix ix_any s_ix (o_var (i := 4) rfl (by first | exact Or.inl rfl | exact Or.inr (Or.inl rfl) | exact Or.inr (Or.inr rfl))) (o_v (x_bin op_sub s_sub (o_v (x_bin op_sub s_sub (o_var (i := 5) rfl (by first | exact Or.inl rfl | exact Or.inr (Or.inl rfl) | exact Or.inr (Or.inr rfl))) (o_v x_int))) (o_var (i := 6) rfl (by first | exact Or.inl rfl | exact Or.inr (Or.inl rfl) | exact Or.inr (Or.inr rfl))))) (fun _ _ => rfl))))))) xa_nil))) xa_nil))) (o_var (i := 0) rfl (by first | exact Or.inl rfl | exact Or.inr (Or.inl rfl) | exact Or.inr (Or.inr rfl))))))) (xb_one (xs_ret (x_biT call_tuple_of s_tupO (by rfl) T.m_tuple b_tuple (xa_cons (o_v (x_sl (o_var (i := 4) rfl (by first | exact Or.inl rfl | exact Or.inr (Or.inl rfl) | exact Or.inr (Or.inr rfl))) xp_none (xp_some (o_var (i := 3) rfl (by first | exact Or.inl rfl | exact Or.inr (Or.inl rfl) | exact Or.inr (Or.inr rfl)))))) xa_nil))))))
theorem ok__law_row (T : Tx K mg fd) {n : Nat} (I : Ih P w K mg base fd n) : FnOk P w K mg base CX0 (n + 1) (He.ga K "_law_row") (fd 23) P__law_row (spI K (run (n + 1) "_law_row")) := by
  have nd := sc__law_row.nd
  rw [run__law_row]
  refine T.f__law_row.ok sc__law_row (fun vs H Q E h => spI_len rfl h) (fun cdv A outer s H vs Q E hr h => ⟨kS K (F__law_row (run n)).body, PSs.nox ?_, fn_read rfl (show (3 : Nat) ≤ 4 by decide) h⟩)
  exact (xb_one (xs_ret (x_biT call_tuple_of s_tupO (by rfl) T.m_tuple b_tuple (xa_cons (o_v (x_lc (own := [("at", 3)]) rfl nd (xi_range1 (by rfl) T.m_range (o_v (x_callR (i := 0) I.i__law_taken hr (by rfl) T.g__law_taken T.k__law_taken T.b__law_taken pass0 (pe_var (i := 0) rfl (by first | exact Or.inl rfl | exact Or.inr (Or.inl rfl) | exact Or.inr (Or.inr rfl))) (xa_cons (o_v (x_bin op_addA s_add (o_var (i := 2) rfl (by first | exact Or.inl rfl | exact Or.inr (Or.inl rfl) | exact Or.inr (Or.inr rfl))) (o_v x_int))) xa_nil)))) (blkOk_by (own := [("at", 3)]) (N := N__law_row) (sc := defScope (topS 41)) (by decide +kernel)) gs_nm (by simp [Tg.slots]) (fun _ _ _ _ _ => pg_name (i := 3) nd rfl (by first | exact Or.inl rfl | exact Or.inr rfl)) (fun _ _ _ _ _ => xts_nil) (fun _ _ _ _ _ => (x_callR (i := 0) I.i__law_taken hr (by rfl) T.g__law_taken T.k__law_taken T.b__law_taken pass0 (pe_var (i := 0) rfl (by first | exact Or.inl rfl | exact Or.inr (Or.inl rfl) | exact Or.inr (Or.inr rfl))) (xa_cons (o_var (i := 1) rfl (by first | exact Or.inl rfl | exact Or.inr (Or.inl rfl) | exact Or.inr (Or.inr rfl))) xa_nil))))) xa_nil))))
theorem ok__law_poly (T : Tx K mg fd) {n : Nat} (I : Ih P w K mg base fd n) : FnOk P w K mg base CX0 (n + 1) (He.ga K "_law_poly") (fd 24) P__law_poly (spI K (run (n + 1) "_law_poly")) := by
  have nd := sc__law_poly.nd
  rw [run__law_poly]
  refine T.f__law_poly.ok sc__law_poly (fun vs H Q E h => spI_len rfl h) (fun cdv A outer s H vs Q E hr h => ⟨kS K (F__law_poly (run n)).body, PSs.nox ?_, fn_read rfl (show (3 : Nat) ≤ 3 by decide) h⟩)
  exact (xb_one (xs_ret (x_call I.i__law_trim hr (by rfl) T.g__law_trim T.k__law_trim T.b__law_trim pass0 (xa_cons (o_v (x_callR (i := 0) I.i__law_row hr (by rfl) T.g__law_row T.k__law_row T.b__law_row pass0 (pe_var (i := 0) rfl (by first | exact Or.inl rfl | exact Or.inr (Or.inl rfl) | exact Or.inr (Or.inr rfl))) (xa_cons (o_var (i := 1) rfl (by first | exact Or.inl rfl | exact Or.inr (Or.inl rfl) | exact Or.inr (Or.inr rfl))) (xa_cons (o_v (x_bin op_addA s_add (o_var (i := 2) rfl (by first | exact Or.inl rfl | exact Or.inr (Or.inl rfl) | exact Or.inr (Or.inr rfl))) (o_v x_int))) xa_nil)))) xa_nil))))
theorem ok__law_is_poly (T : Tx K mg fd) {n : Nat} (I : Ih P w K mg base fd n) : FnOk P w K mg base CX0 (n + 1) (He.ga K "_law_is_poly") (fd 25) P__law_is_poly (spI K (run (n + 1) "_law_is_poly")) := by
  have nd := sc__law_is_poly.nd
  rw [run__law_is_poly]
  refine T.f__law_is_poly.ok sc__law_is_poly (fun vs H Q E h => spI_len rfl h) (fun cdv A outer s H vs Q E hr h => ⟨kS K (F__law_is_poly (run n)).body, PSs.nox ?_, fn_read rfl (show (2 : Nat) ≤ 4 by decide) h⟩)
  exact (xb_cons (xs_if (PW.pt (x_or (x_not (x_truth (o_v (x_isi1 (t := .tuple) (o_var (i := 1) rfl (by first | exact Or.inl rfl | exact Or.inr (Or.inl rfl) | exact Or.inr (Or.inr rfl))) (by rfl) T.m_isinstance b_isinstance (by rfl) T.m_tuple b_tuple)) (fun _ => rfl))) (pw_or1 (x_cmpT (op_eqD hr.units) s_eq (o_v (x_sl (o_var (i := 1) rfl (by first | exact Or.inl rfl | exact Or.inr (Or.inl rfl) | exact Or.inr (Or.inr rfl))) (xp_some (o_v (x_un un_neg s_neg (o_v x_int)))) xp_none)) (o_v (x_tup (xa_cons (o_v x_int) xa_nil))) (nomark _))))) (xb_one (xs_ret x_bl)) xb_nil) (xb_cons (xs_setLc (i := 2) (own := [("entry", 3)]) rfl nd rfl rfl (sw_true rfl rfl rfl (by decide +kernel)) (xi_seq (o_var (i := 1) rfl (by first | exact Or.inl rfl | exact Or.inr (Or.inl rfl) | exact Or.inr (Or.inr rfl)))) (blkOk_by (own := [("entry", 3)]) (N := N__law_is_poly) (sc := defScope (topS 43)) (by decide +kernel)) gs_nm (by simp [Tg.slots]) (fun _ _ _ _ _ => pg_name (i := 3) nd rfl (by first | exact Or.inl rfl | exact Or.inr rfl)) (fun _ _ _ _ _ => (xts_one (PW.pt (x_or (x_not (x_truth (o_v (x_isi1 (t := .int) (o_var (i := 3) rfl (by first | exact Or.inl rfl | exact Or.inr (Or.inl rfl) | exact Or.inr (Or.inr rfl))) (by rfl) T.m_isinstance b_isinstance (by rfl) T.m_int b_int)) (fun _ => rfl))) (pw_or1 (x_truth (o_v (x_isi1 (t := .bool) (o_var (i := 3) rfl (by first | exact Or.inl rfl | exact Or.inr (Or.inl rfl) | exact Or.inr (Or.inr rfl))) (by rfl) T.m_isinstance b_isinstance (by rfl) T.m_bool b_bool)) (fun _ => rfl))))))) (fun _ _ _ _ _ => (x_var (i := 3) rfl (by first | exact Or.inl rfl | exact Or.inr (Or.inl rfl) | exact Or.inr (Or.inr rfl))))) (xb_one (xs_ret (x_andV (x_cmp (op_eqD hr.units) s_eq (o_var (i := 2) rfl (by first | exact Or.inl rfl | exact Or.inr (Or.inl rfl) | exact Or.inr (Or.inr rfl))) (o_v (x_lst xa_nil)) (nomark _)) (pe_one (x_cmp (op_eqD hr.units) s_eq (o_v (x_lc (own := [("entry", 3)]) rfl nd (xi_seq (o_var (i := 1) rfl (by first | exact Or.inl rfl | exact Or.inr (Or.inl rfl) | exact Or.inr (Or.inr rfl)))) (blkOk_by (own := [("entry", 3)]) (N := N__law_is_poly) (sc := defScope (topS 43)) (by decide +kernel)) gs_nm (by simp [Tg.slots]) (fun _ _ _ _ _ => pg_name (i := 3) nd rfl (by first | exact Or.inl rfl | exact Or.inr rfl)) (fun _ _ _ _ _ => (xts_one (x_not (x_chainT op_le op_lt s_le s_lt (o_v x_int) (o_var (i := 3) rfl (by first | exact Or.inl rfl | exact Or.inr (Or.inl rfl) | exact Or.inr (Or.inr rfl))) (o_var (i := 0) rfl (by first | exact Or.inl rfl | exact Or.inr (Or.inl rfl) | exact Or.inr (Or.inr rfl))))))) (fun _ _ _ _ _ => (x_var (i := 3) rfl (by first | exact Or.inl rfl | exact Or.inr (Or.inl rfl) | exact Or.inr (Or.inr rfl)))))) (o_v (x_lst xa_nil)) (nomark _))))))))
theorem ok_law (T : Tx K mg fd) {n : Nat} (I : Ih P w K mg base fd n) : FnOk P w K mg base CX0 (n + 1) (He.ga K "law") (fd 26) P_law (spI K (run (n + 1) "law")) := by
  have nd := sc_law.nd
  rw [run_law]
  refine T.f_law.ok sc_law (fun vs H Q E h => spI_len rfl h) (fun cdv A outer s H vs Q E hr h => ⟨kS K (F_law (run n)).body, PSs.nox ?_, fn_read rfl (show (1 : Nat) ≤ 11 by decide) h⟩)
  exact (xb_cons (xs_set (i := 1) nd rfl (by first | exact Or.inl rfl | exact Or.inr rfl) (x_lst (xa_cons (o_var (i := 0) rfl (by first | exact Or.inl rfl | exact Or.inr (Or.inl rfl) | exact Or.inr (Or.inr rfl))) (xa_cons (o_v x_int) (xa_cons (o_v x_int) (xa_cons (o_v x_int) xa_nil)))))) (xb_cons (xs_set (i := 2) nd rfl (by first | exact Or.inl rfl | exact Or.inr rfl) (x_callR (i := 1) I.i__law_prime hr (by rfl) T.g__law_prime T.k__law_prime T.b__law_prime pass0 (pe_var (i := 1) rfl (by first | exact Or.inl rfl | exact Or.inr (Or.inl rfl) | exact Or.inr (Or.inr rfl))) xa_nil)) (xb_cons (xs_unp (pg_tup rfl (pgs_cons (pg_name (i := 3) nd rfl (by first | exact Or.inl rfl | exact Or.inr rfl)) (pgs_cons (pg_name (i := 4) nd rfl (by first | exact Or.inl rfl | exact Or.inr rfl)) pgs_nil))) rfl (GSs.cons (GSs.cons GSs.nil)) (x_callR (i := 1) I.i__law_taps hr (by rfl) T.g__law_taps T.k__law_taps T.b__law_taps pass0 (pe_var (i := 1) rfl (by first | exact Or.inl rfl | exact Or.inr (Or.inl rfl) | exact Or.inr (Or.inr rfl))) (xa_cons (o_var (i := 2) rfl (by first | exact Or.inl rfl | exact Or.inr (Or.inl rfl) | exact Or.inr (Or.inr rfl))) (xa_cons (o_v (x_ix ix_any s_ix (o_v (x_lst (xa_cons (o_v x_int) (xa_cons (o_v x_int) (xa_cons (o_v x_int) xa_nil))))) (o_v (x_callR (i := 1) I.i__law_taken hr (by rfl) T.g__law_taken T.k__law_taken T.b__law_taken pass0 (pe_var (i := 1) rfl (by first | exact Or.inl rfl | exact Or.inr (Or.inl rfl) | exact Or.inr (Or.inr rfl))) (xa_cons (o_v x_int) xa_nil))) (fun _ _ => rfl))) xa_nil)))) (xb_cons (xs_set (i := 5) nd rfl (by first | exact Or.inl rfl | exact Or.inr rfl) (x_call I.i__law_trim hr (by rfl) T.g__law_trim T.k__law_trim T.b__law_trim pass0 (xa_cons (o_v (x_bin op_addA s_add (o_v (x_lst (xa_cons (o_v x_int) xa_nil))) (o_v (x_lc (own := [("tap", 10)]) rfl nd (xi_seq (o_var (i := 3) rfl (by first | exact Or.inl rfl | exact Or.inr (Or.inl rfl) | exact Or.inr (Or.inr rfl)))) (blkOk_by (own := [("tap", 10)]) (N := N_law) (sc := defScope (topS 44)) (by decide +kernel)) gs_nm (by simp [Tg.slots]) (fun _ _ _ _ _ => pg_name (i := 10) nd rfl (by first | exact Or.inl rfl | exact Or.inr rfl)) (fun _ _ _ _ _ => xts_nil) (fun _ _ _ _ _ => (x_bin op_mod s_mod (o_v (x_biT call_int1 s_int1 (by rfl) T.m_int b_int (xa_cons (o_v (x_bin op_sub s_sub (o_v x_int) (o_var (i := 10) rfl (by first | exact Or.inl rfl | exact Or.inr (Or.inl rfl) | exact Or.inr (Or.inr rfl))))) xa_nil))) (o_var (i := 2) rfl (by first | exact Or.inl rfl | exact Or.inr (Or.inl rfl) | exact Or.inr (Or.inr rfl))))))))) xa_nil))) (xb_cons (xs_set (i := 6) nd rfl (by first | exact Or.inl rfl | exact Or.inr rfl) (x_call I.i__law_trim hr (by rfl) T.g__law_trim T.k__law_trim T.b__law_trim pass0 (xa_cons (o_v (x_sl (o_v (x_call I.i__law_times hr (by rfl) T.g__law_times T.k__law_times T.b__law_times pass0 (xa_cons (o_var (i := 2) rfl (by first | exact Or.inl rfl | exact Or.inr (Or.inl rfl) | exact Or.inr (Or.inr rfl))) (xa_cons (o_var (i := 5) rfl (by first | exact Or.inl rfl | exact Or.inr (Or.inl rfl) | exact Or.inr (Or.inr rfl))) (xa_cons (o_v (x_call I.i__law_trim hr (by rfl) T.g__law_trim T.k__law_trim T.b__law_trim pass0 (xa_cons (o_var (i := 4) rfl (by first | exact Or.inl rfl | exact Or.inr (Or.inl rfl) | exact Or.inr (Or.inr rfl))) xa_nil))) xa_nil))))) xp_none (xp_some (o_v (x_biB call_len_seq s_len (by rfl) T.m_len b_len (xa_cons (o_var (i := 3) rfl (by first | exact Or.inl rfl | exact Or.inr (Or.inl rfl) | exact Or.inr (Or.inr rfl))) xa_nil)))))) xa_nil))) (xb_cons (xs_if (x_not (x_truth (o_v (x_call I.i__law_alike hr (by rfl) T.g__law_alike T.k__law_alike T.b__law_alike pass0 (xa_cons (o_v (x_call I.i_fraction hr (by rfl) T.g_fraction T.k_fraction T.b_fraction pass0 (xa_cons (o_var (i := 2) rfl (by first | exact Or.inl rfl | exact Or.inr (Or.inl rfl) | exact Or.inr (Or.inr rfl))) (xa_cons (o_var (i := 3) rfl (by first | exact Or.inl rfl | exact Or.inr (Or.inl rfl) | exact Or.inr (Or.inr rfl))) (xa_cons (o_var (i := 4) rfl (by first | exact Or.inl rfl | exact Or.inr (Or.inl rfl) | exact Or.inr (Or.inr rfl))) xa_nil))))) (xa_cons (o_v (x_tup (xa_cons (o_var (i := 6) rfl (by first | exact Or.inl rfl | exact Or.inr (Or.inl rfl) | exact Or.inr (Or.inr rfl))) (xa_cons (o_var (i := 5) rfl (by first | exact Or.inl rfl | exact Or.inr (Or.inl rfl) | exact Or.inr (Or.inr rfl))) xa_nil)))) xa_nil)))) (fun _ => rfl))) (xb_one (xs_ret x_bl)) xb_nil) (xb_cons (xs_set (i := 7) nd rfl (by first | exact Or.inl rfl | exact Or.inr rfl) (x_callR (i := 1) I.i__law_taken hr (by rfl) T.g__law_taken T.k__law_taken T.b__law_taken pass0 (pe_var (i := 1) rfl (by first | exact Or.inl rfl | exact Or.inr (Or.inl rfl) | exact Or.inr (Or.inr rfl))) (xa_cons (o_v x_int) xa_nil))) (xb_cons (xs_if (x_not (x_truth (o_v (x_call I.i__law_alike hr (by rfl) T.g__law_alike T.k__law_alike T.b__law_alike pass0 (xa_cons (o_v (x_call I.i_expansion hr (by rfl) T.g_expansion T.k_expansion T.b_expansion pass0 (xa_cons (o_var (i := 2) rfl (by first | exact Or.inl rfl | exact Or.inr (Or.inl rfl) | exact Or.inr (Or.inr rfl))) (xa_cons (o_var (i := 6) rfl (by first | exact Or.inl rfl | exact Or.inr (Or.inl rfl) | exact Or.inr (Or.inr rfl))) (xa_cons (o_var (i := 5) rfl (by first | exact Or.inl rfl | exact Or.inr (Or.inl rfl) | exact Or.inr (Or.inr rfl))) (xa_cons (o_var (i := 7) rfl (by first | exact Or.inl rfl | exact Or.inr (Or.inl rfl) | exact Or.inr (Or.inr rfl))) xa_nil)))))) (xa_cons (o_v (x_call I.i__law_run hr (by rfl) T.g__law_run T.k__law_run T.b__law_run pass0 (xa_cons (o_var (i := 2) rfl (by first | exact Or.inl rfl | exact Or.inr (Or.inl rfl) | exact Or.inr (Or.inr rfl))) (xa_cons (o_var (i := 3) rfl (by first | exact Or.inl rfl | exact Or.inr (Or.inl rfl) | exact Or.inr (Or.inr rfl))) (xa_cons (o_var (i := 4) rfl (by first | exact Or.inl rfl | exact Or.inr (Or.inl rfl) | exact Or.inr (Or.inr rfl))) (xa_cons (o_var (i := 7) rfl (by first | exact Or.inl rfl | exact Or.inr (Or.inl rfl) | exact Or.inr (Or.inr rfl))) xa_nil)))))) xa_nil)))) (fun _ => rfl))) (xb_one (xs_ret x_bl)) xb_nil) (xb_cons (xs_par (i := 6) (j := 5) rfl nd rfl rfl (by decide) rfl rfl (x_callR (i := 1) I.i__law_poly hr (by rfl) T.g__law_poly T.k__law_poly T.b__law_poly pass0 (pe_var (i := 1) rfl (by first | exact Or.inl rfl | exact Or.inr (Or.inl rfl) | exact Or.inr (Or.inr rfl))) (xa_cons (o_var (i := 2) rfl (by first | exact Or.inl rfl | exact Or.inr (Or.inl rfl) | exact Or.inr (Or.inr rfl))) (xa_cons (o_v x_int) xa_nil))) (x_bin op_addA s_add (o_v (x_tup (xa_cons (o_v (x_bin op_addA s_add (o_v x_int) (o_v (x_callR (i := 1) I.i__law_taken hr (by rfl) T.g__law_taken T.k__law_taken T.b__law_taken pass0 (pe_var (i := 1) rfl (by first | exact Or.inl rfl | exact Or.inr (Or.inl rfl) | exact Or.inr (Or.inr rfl))) (xa_cons (o_v (x_bin op_sub s_sub (o_var (i := 2) rfl (by first | exact Or.inl rfl | exact Or.inr (Or.inl rfl) | exact Or.inr (Or.inr rfl))) (o_v x_int))) xa_nil))))) xa_nil))) (o_v (x_callR (i := 1) I.i__law_row hr (by rfl) T.g__law_row T.k__law_row T.b__law_row pass0 (pe_var (i := 1) rfl (by first | exact Or.inl rfl | exact Or.inr (Or.inl rfl) | exact Or.inr (Or.inr rfl))) (xa_cons (o_var (i := 2) rfl (by first | exact Or.inl rfl | exact Or.inr (Or.inl rfl) | exact Or.inr (Or.inr rfl))) (xa_cons (o_v x_int) xa_nil))))) (by rfl)) (xb_cons (xs_set (i := 5) nd rfl (by first | exact Or.inl rfl | exact Or.inr rfl) (x_call I.i__law_trim hr (by rfl) T.g__law_trim T.k__law_trim T.b__law_trim pass0 (xa_cons (o_var (i := 5) rfl (by first | exact Or.inl rfl | exact Or.inr (Or.inl rfl) | exact Or.inr (Or.inr rfl))) xa_nil))) (xb_cons (xs_set (i := 8) nd rfl (by first | exact Or.inl rfl | exact Or.inr rfl) (x_call I.i_expansion hr (by rfl) T.g_expansion T.k_expansion T.b_expansion pass0 (xa_cons (o_var (i := 2) rfl (by first | exact Or.inl rfl | exact Or.inr (Or.inl rfl) | exact Or.inr (Or.inr rfl))) (xa_cons (o_var (i := 6) rfl (by first | exact Or.inl rfl | exact Or.inr (Or.inl rfl) | exact Or.inr (Or.inr rfl))) (xa_cons (o_var (i := 5) rfl (by first | exact Or.inl rfl | exact Or.inr (Or.inl rfl) | exact Or.inr (Or.inr rfl))) (xa_cons (o_var (i := 7) rfl (by first | exact Or.inl rfl | exact Or.inr (Or.inl rfl) | exact Or.inr (Or.inr rfl))) xa_nil)))))) (xb_cons (xs_if (PW.pt (x_or (x_cmpT (op_neD hr.units) s_ne (o_v (x_biB call_len_seq s_len (by rfl) T.m_len b_len (xa_cons (o_var (i := 8) rfl (by first | exact Or.inl rfl | exact Or.inr (Or.inl rfl) | exact Or.inr (Or.inr rfl))) xa_nil))) (o_var (i := 7) rfl (by first | exact Or.inl rfl | exact Or.inr (Or.inl rfl) | exact Or.inr (Or.inr rfl))) (nomark _)) (pw_or1 (x_not (x_truth (o_v (x_call I.i__law_is_poly hr (by rfl) T.g__law_is_poly T.k__law_is_poly T.b__law_is_poly pass0 (xa_cons (o_var (i := 2) rfl (by first | exact Or.inl rfl | exact Or.inr (Or.inl rfl) | exact Or.inr (Or.inr rfl))) (xa_cons (o_v (x_call I.i__law_trim hr (by rfl) T.g__law_trim T.k__law_trim T.b__law_trim pass0 (xa_cons (o_var (i := 8) rfl (by first | exact Or.inl rfl | exact Or.inr (Or.inl rfl) | exact Or.inr (Or.inr rfl))) xa_nil))) xa_nil)))) (fun _ => rfl)))))) (xb_one (xs_ret x_bl)) xb_nil) (xb_cons (xs_set (i := 9) nd rfl (by first | exact Or.inl rfl | exact Or.inr rfl) (x_call I.i__law_times hr (by rfl) T.g__law_times T.k__law_times T.b__law_times pass0 (xa_cons (o_var (i := 2) rfl (by first | exact Or.inl rfl | exact Or.inr (Or.inl rfl) | exact Or.inr (Or.inr rfl))) (xa_cons (o_v (x_call I.i__law_trim hr (by rfl) T.g__law_trim T.k__law_trim T.b__law_trim pass0 (xa_cons (o_var (i := 8) rfl (by first | exact Or.inl rfl | exact Or.inr (Or.inl rfl) | exact Or.inr (Or.inr rfl))) xa_nil))) (xa_cons (o_var (i := 5) rfl (by first | exact Or.inl rfl | exact Or.inr (Or.inl rfl) | exact Or.inr (Or.inr rfl))) xa_nil))))) (xb_one (xs_ret (x_cmp (op_eqD hr.units) s_eq (o_v (x_call I.i__law_trim hr (by rfl) T.g__law_trim T.k__law_trim T.b__law_trim pass0 (xa_cons (o_v (x_sl (o_var (i := 9) rfl (by first | exact Or.inl rfl | exact Or.inr (Or.inl rfl) | exact Or.inr (Or.inr rfl))) xp_none (xp_some (o_var (i := 7) rfl (by first | exact Or.inl rfl | exact Or.inr (Or.inl rfl) | exact Or.inr (Or.inr rfl)))))) xa_nil))) (o_v (x_call I.i__law_trim hr (by rfl) T.g__law_trim T.k__law_trim T.b__law_trim pass0 (xa_cons (o_v (x_sl (o_var (i := 6) rfl (by first | exact Or.inl rfl | exact Or.inr (Or.inl rfl) | exact Or.inr (Or.inr rfl))) xp_none (xp_some (o_var (i := 7) rfl (by first | exact Or.inl rfl | exact Or.inr (Or.inl rfl) | exact Or.inr (Or.inr rfl)))))) xa_nil))) (nomark _)))))))))))))))))
theorem ih_zero : Ih P w K mg base fd 0 where
  i_inverse := fn_none
  i_is_between := fn_none
  i_are_numbers := fn_none
  i_check_prime := fn_none
  i_check_number := fn_none
  i_check_polynomial := fn_none
  i_check_taps := fn_none
  i_are_so_many := fn_none
  i_check_start := fn_none
  i_check_wired := fn_none
  i_trimmed := fn_none
  i_product_of := fn_none
  i_low_of := fn_none
  i_fraction := fn_none
  i_expansion := fn_none
  i__law_taken := fn_none
  i__law_pick := fn_none
  i__law_prime := fn_none
  i__law_taps := fn_none
  i__law_trim := fn_none
  i__law_times := fn_none
  i__law_alike := fn_none
  i__law_run := fn_none
  i__law_row := fn_none
  i__law_poly := fn_none
  i__law_is_poly := fn_none
  i_law := fn_none
theorem ih_all (T : Tx K mg fd) : ∀ n, Ih P w K mg base fd n
  | 0 => ih_zero
  | n + 1 =>
    have I := ih_all T n
    {
      i_inverse := ok_inverse T I
      i_is_between := ok_is_between T I
      i_are_numbers := ok_are_numbers T I
      i_check_prime := ok_check_prime T I
      i_check_number := ok_check_number T I
      i_check_polynomial := ok_check_polynomial T I
      i_check_taps := ok_check_taps T I
      i_are_so_many := ok_are_so_many T I
      i_check_start := ok_check_start T I
      i_check_wired := ok_check_wired T I
      i_trimmed := ok_trimmed T I
      i_product_of := ok_product_of T I
      i_low_of := ok_low_of T I
      i_fraction := ok_fraction T I
      i_expansion := ok_expansion T I
      i__law_taken := ok__law_taken T I
      i__law_pick := ok__law_pick T I
      i__law_prime := ok__law_prime T I
      i__law_taps := ok__law_taps T I
      i__law_trim := ok__law_trim T I
      i__law_times := ok__law_times T I
      i__law_alike := ok__law_alike T I
      i__law_run := ok__law_run T I
      i__law_row := ok__law_row T I
      i__law_poly := ok__law_poly T I
      i__law_is_poly := ok__law_is_poly T I
      i_law := ok_law T I
    }
end
/-! ### the head -/
def d_inverse : He.DefD := ⟨("inverse", none), "inverse", "inverse", defArgs (topS 9), defBody (topS 9), defScope (topS 9), [], []⟩
def d_is_between : He.DefD := ⟨("is_between", none), "is_between", "is_between", defArgs (topS 15), defBody (topS 15), defScope (topS 15), [], []⟩
def d_are_numbers : He.DefD := ⟨("are_numbers", none), "are_numbers", "are_numbers", defArgs (topS 16), defBody (topS 16), defScope (topS 16), [], []⟩
def d_check_prime : He.DefD := ⟨("check_prime", none), "check_prime", "check_prime", defArgs (topS 17), defBody (topS 17), defScope (topS 17), [], []⟩
def d_check_number : He.DefD := ⟨("check_number", none), "check_number", "check_number", defArgs (topS 18), defBody (topS 18), defScope (topS 18), [], []⟩
def d_check_polynomial : He.DefD := ⟨("check_polynomial", none), "check_polynomial", "check_polynomial", defArgs (topS 19), defBody (topS 19), defScope (topS 19), [], []⟩
def d_check_taps : He.DefD := ⟨("check_taps", none), "check_taps", "check_taps", defArgs (topS 20), defBody (topS 20), defScope (topS 20), [], []⟩
def d_are_so_many : He.DefD := ⟨("are_so_many", none), "are_so_many", "are_so_many", defArgs (topS 21), defBody (topS 21), defScope (topS 21), [], []⟩
def d_check_start : He.DefD := ⟨("check_start", none), "check_start", "check_start", defArgs (topS 22), defBody (topS 22), defScope (topS 22), [], []⟩
def d_check_wired : He.DefD := ⟨("check_wired", none), "check_wired", "check_wired", defArgs (topS 23), defBody (topS 23), defScope (topS 23), [], []⟩
def d_trimmed : He.DefD := ⟨("trimmed", none), "trimmed", "trimmed", defArgs (topS 25), defBody (topS 25), defScope (topS 25), [], []⟩
def d_product_of : He.DefD := ⟨("product_of", none), "product_of", "product_of", defArgs (topS 26), defBody (topS 26), defScope (topS 26), [], []⟩
def d_low_of : He.DefD := ⟨("low_of", none), "low_of", "low_of", defArgs (topS 28), defBody (topS 28), defScope (topS 28), [], []⟩
def d_fraction : He.DefD := ⟨("fraction", none), "fraction", "fraction", defArgs (topS 30), defBody (topS 30), defScope (topS 30), [], []⟩
def d_expansion : He.DefD := ⟨("expansion", none), "expansion", "expansion", defArgs (topS 31), defBody (topS 31), defScope (topS 31), [], []⟩
def d__law_taken : He.DefD := ⟨("_law_taken", none), "_law_taken", "_law_taken", defArgs (topS 33), defBody (topS 33), defScope (topS 33), [], []⟩
def d__law_pick : He.DefD := ⟨("_law_pick", none), "_law_pick", "_law_pick", defArgs (topS 34), defBody (topS 34), defScope (topS 34), [], []⟩
def d__law_prime : He.DefD := ⟨("_law_prime", none), "_law_prime", "_law_prime", defArgs (topS 35), defBody (topS 35), defScope (topS 35), [], []⟩
def d__law_taps : He.DefD := ⟨("_law_taps", none), "_law_taps", "_law_taps", defArgs (topS 36), defBody (topS 36), defScope (topS 36), [], []⟩
def d__law_trim : He.DefD := ⟨("_law_trim", none), "_law_trim", "_law_trim", defArgs (topS 37), defBody (topS 37), defScope (topS 37), [], []⟩
def d__law_times : He.DefD := ⟨("_law_times", none), "_law_times", "_law_times", defArgs (topS 38), defBody (topS 38), defScope (topS 38), [], []⟩
def d__law_alike : He.DefD := ⟨("_law_alike", none), "_law_alike", "_law_alike", defArgs (topS 39), defBody (topS 39), defScope (topS 39), [], []⟩
def d__law_run : He.DefD := ⟨("_law_run", none), "_law_run", "_law_run", defArgs (topS 40), defBody (topS 40), defScope (topS 40), [], []⟩
def d__law_row : He.DefD := ⟨("_law_row", none), "_law_row", "_law_row", defArgs (topS 41), defBody (topS 41), defScope (topS 41), [], []⟩
def d__law_poly : He.DefD := ⟨("_law_poly", none), "_law_poly", "_law_poly", defArgs (topS 42), defBody (topS 42), defScope (topS 42), [], []⟩
def d__law_is_poly : He.DefD := ⟨("_law_is_poly", none), "_law_is_poly", "_law_is_poly", defArgs (topS 43), defBody (topS 43), defScope (topS 43), [], []⟩
def d_law : He.DefD := ⟨("law", none), "law", "law", defArgs (topS 44), defBody (topS 44), defScope (topS 44), [], []⟩
def fn : List He.DefD := [d_inverse, d_is_between, d_are_numbers, d_check_prime, d_check_number, d_check_polynomial, d_check_taps, d_are_so_many, d_check_start, d_check_wired, d_trimmed, d_product_of, d_low_of, d_fraction, d_expansion, d__law_taken, d__law_pick, d__law_prime, d__law_taps, d__law_trim, d__law_times, d__law_alike, d__law_run, d__law_row, d__law_poly, d__law_is_poly, d_law]
def fa : List He.Fa := [.free "all", .free "bool", .free "enumerate", .free "int", .free "isinstance", .free "len", .free "list", .free "min", .free "range", .free "str", .free "sum", .free "tuple", .int "MOST_COEFFICIENTS" 201, .int "MOST_NUMBERS" 400, .int "MOST_TAPS" 60, .glo "PRIMES", .glo "inverse", .glo "is_between", .glo "are_numbers", .glo "check_prime", .glo "check_number", .glo "check_polynomial", .glo "check_taps", .glo "are_so_many", .glo "check_start", .glo "check_wired", .glo "trimmed", .glo "product_of", .glo "low_of", .glo "fraction", .glo "expansion", .glo "_law_taken", .glo "_law_pick", .glo "_law_prime", .glo "_law_taps", .glo "_law_trim", .glo "_law_times", .glo "_law_alike", .glo "_law_run", .glo "_law_row", .glo "_law_poly", .glo "_law_is_poly", .glo "law"]
def ex (K : PySem.W.Frag) : Bool := He.tupB K "PRIMES" [.int 2, .int 3, .int 5, .int 7]
abbrev R : PySem.W.OpenRow := PySem.W.OpenLaw.row PySem.Challenge.rw_taprows_k05_whole_fractions
abbrev hk : PySem.W.Hook := hookE 4 fa fn ex
def ob (s : PySem.W.SharedT) : He.AlD × Bool := obsE 4 fa fn ex (HandSHeadRun.getT s)
theorem ob_eq (s : PySem.W.SharedT) : ob s = hk.obs s.abs := obsE_eq (HandSHeadRun.getT_eq s)
def loose : List Str := (["RowsError", "BadPrime", "BadPolynomial", "BadNumber", "BadTaps", "BadStart", "ZeroDivisor", "PRIMES", "MOST_NUMBERS", "MOST_COEFFICIENTS", "MOST_TAPS", "inverse", "is_between", "are_numbers", "check_prime", "check_number", "check_polynomial", "check_taps", "are_so_many", "check_start"] : List Str) ++ (["check_wired", "trimmed", "product_of", "low_of", "fraction", "expansion", "_law_taken", "_law_pick", "_law_prime", "_law_taps", "_law_trim", "_law_times", "_law_alike", "_law_run", "_law_row", "_law_poly", "_law_is_poly"] : List Str)
theorem run_ok (w : World) : HandSHeadRun.RunEq R (PySem.W.view R.prog [44]) hk ob 6000 loose w := by
  intro os
  kernel_rfl
theorem tx {K : PySem.W.Frag} {h : Heap} {mg : Str → Option Value} (X : K.In h) (G : h.Ns mainGlobals mg) (c : He.SaysD fa fn K) (ce : ex K = true) : ∃ fd, Tx K mg fd := by
  obtain ⟨fd0, F0⟩ := c.def_ 0 (d := d_inverse) rfl
  obtain ⟨fd1, F1⟩ := c.def_ 1 (d := d_is_between) rfl
  obtain ⟨fd2, F2⟩ := c.def_ 2 (d := d_are_numbers) rfl
  obtain ⟨fd3, F3⟩ := c.def_ 3 (d := d_check_prime) rfl
  obtain ⟨fd4, F4⟩ := c.def_ 4 (d := d_check_number) rfl
  obtain ⟨fd5, F5⟩ := c.def_ 5 (d := d_check_polynomial) rfl
  obtain ⟨fd6, F6⟩ := c.def_ 6 (d := d_check_taps) rfl
  obtain ⟨fd7, F7⟩ := c.def_ 7 (d := d_are_so_many) rfl
  obtain ⟨fd8, F8⟩ := c.def_ 8 (d := d_check_start) rfl
  obtain ⟨fd9, F9⟩ := c.def_ 9 (d := d_check_wired) rfl
  obtain ⟨fd10, F10⟩ := c.def_ 10 (d := d_trimmed) rfl
  obtain ⟨fd11, F11⟩ := c.def_ 11 (d := d_product_of) rfl
  obtain ⟨fd12, F12⟩ := c.def_ 12 (d := d_low_of) rfl
  obtain ⟨fd13, F13⟩ := c.def_ 13 (d := d_fraction) rfl
  obtain ⟨fd14, F14⟩ := c.def_ 14 (d := d_expansion) rfl
  obtain ⟨fd15, F15⟩ := c.def_ 15 (d := d__law_taken) rfl
  obtain ⟨fd16, F16⟩ := c.def_ 16 (d := d__law_pick) rfl
  obtain ⟨fd17, F17⟩ := c.def_ 17 (d := d__law_prime) rfl
  obtain ⟨fd18, F18⟩ := c.def_ 18 (d := d__law_taps) rfl
  obtain ⟨fd19, F19⟩ := c.def_ 19 (d := d__law_trim) rfl
  obtain ⟨fd20, F20⟩ := c.def_ 20 (d := d__law_times) rfl
  obtain ⟨fd21, F21⟩ := c.def_ 21 (d := d__law_alike) rfl
  obtain ⟨fd22, F22⟩ := c.def_ 22 (d := d__law_run) rfl
  obtain ⟨fd23, F23⟩ := c.def_ 23 (d := d__law_row) rfl
  obtain ⟨fd24, F24⟩ := c.def_ 24 (d := d__law_poly) rfl
  obtain ⟨fd25, F25⟩ := c.def_ 25 (d := d__law_is_poly) rfl
  obtain ⟨fd26, F26⟩ := c.def_ 26 (d := d_law) rfl
  let fd : Nat → FuncData := fun i => match i with
    | 0 => fd0
    | 1 => fd1
    | 2 => fd2
    | 3 => fd3
    | 4 => fd4
    | 5 => fd5
    | 6 => fd6
    | 7 => fd7
    | 8 => fd8
    | 9 => fd9
    | 10 => fd10
    | 11 => fd11
    | 12 => fd12
    | 13 => fd13
    | 14 => fd14
    | 15 => fd15
    | 16 => fd16
    | 17 => fd17
    | 18 => fd18
    | 19 => fd19
    | 20 => fd20
    | 21 => fd21
    | 22 => fd22
    | 23 => fd23
    | 24 => fd24
    | 25 => fd25
    | 26 => fd26
    | _ => fd0
  exact ⟨fd, {
    m_all := He.free_ok X G (c.fact 0 rfl)
    m_bool := He.free_ok X G (c.fact 1 rfl)
    m_enumerate := He.free_ok X G (c.fact 2 rfl)
    m_int := He.free_ok X G (c.fact 3 rfl)
    m_isinstance := He.free_ok X G (c.fact 4 rfl)
    m_len := He.free_ok X G (c.fact 5 rfl)
    m_list := He.free_ok X G (c.fact 6 rfl)
    m_min := He.free_ok X G (c.fact 7 rfl)
    m_range := He.free_ok X G (c.fact 8 rfl)
    m_str := He.free_ok X G (c.fact 9 rfl)
    m_sum := He.free_ok X G (c.fact 10 rfl)
    m_tuple := He.free_ok X G (c.fact 11 rfl)
    c_MOST_COEFFICIENTS := He.int_ok X G (c.fact 12 rfl)
    c_MOST_NUMBERS := He.int_ok X G (c.fact 13 rfl)
    c_MOST_TAPS := He.int_ok X G (c.fact 14 rfl)
    g_PRIMES := He.glo_ok X G (c.fact 15 rfl)
    t_PRIMES := fun H => He.tupB_ok (vs := [.int 2, .int 3, .int 5, .int 7]) ce H
    g_inverse := He.glo_ok X G (c.fact 16 rfl)
    g_is_between := He.glo_ok X G (c.fact 17 rfl)
    g_are_numbers := He.glo_ok X G (c.fact 18 rfl)
    g_check_prime := He.glo_ok X G (c.fact 19 rfl)
    g_check_number := He.glo_ok X G (c.fact 20 rfl)
    g_check_polynomial := He.glo_ok X G (c.fact 21 rfl)
    g_check_taps := He.glo_ok X G (c.fact 22 rfl)
    g_are_so_many := He.glo_ok X G (c.fact 23 rfl)
    g_check_start := He.glo_ok X G (c.fact 24 rfl)
    g_check_wired := He.glo_ok X G (c.fact 25 rfl)
    g_trimmed := He.glo_ok X G (c.fact 26 rfl)
    g_product_of := He.glo_ok X G (c.fact 27 rfl)
    g_low_of := He.glo_ok X G (c.fact 28 rfl)
    g_fraction := He.glo_ok X G (c.fact 29 rfl)
    g_expansion := He.glo_ok X G (c.fact 30 rfl)
    g__law_taken := He.glo_ok X G (c.fact 31 rfl)
    g__law_pick := He.glo_ok X G (c.fact 32 rfl)
    g__law_prime := He.glo_ok X G (c.fact 33 rfl)
    g__law_taps := He.glo_ok X G (c.fact 34 rfl)
    g__law_trim := He.glo_ok X G (c.fact 35 rfl)
    g__law_times := He.glo_ok X G (c.fact 36 rfl)
    g__law_alike := He.glo_ok X G (c.fact 37 rfl)
    g__law_run := He.glo_ok X G (c.fact 38 rfl)
    g__law_row := He.glo_ok X G (c.fact 39 rfl)
    g__law_poly := He.glo_ok X G (c.fact 40 rfl)
    g__law_is_poly := He.glo_ok X G (c.fact 41 rfl)
    g_law := He.glo_ok X G (c.fact 42 rfl)
    f_inverse := F0
    k_inverse := F0.kp
    b_inverse := FunD.bindsN F0 fun _ _ _ _ _ _ us hl => match us, hl with | [_, _], _ => rfl
    f_is_between := F1
    k_is_between := F1.kp
    b_is_between := FunD.bindsN F1 fun _ _ _ _ _ _ us hl => match us, hl with | [_, _, _], _ => rfl
    f_are_numbers := F2
    k_are_numbers := F2.kp
    b_are_numbers := FunD.bindsN F2 fun _ _ _ _ _ _ us hl => match us, hl with | [_, _, _], _ => rfl
    f_check_prime := F3
    k_check_prime := F3.kp
    b_check_prime := FunD.bindsN F3 fun _ _ _ _ _ _ us hl => match us, hl with | [_], _ => rfl
    f_check_number := F4
    k_check_number := F4.kp
    b_check_number := FunD.bindsN F4 fun _ _ _ _ _ _ us hl => match us, hl with | [_, _, _], _ => rfl
    f_check_polynomial := F5
    k_check_polynomial := F5.kp
    b_check_polynomial := FunD.bindsN F5 fun _ _ _ _ _ _ us hl => match us, hl with | [_, _], _ => rfl
    f_check_taps := F6
    k_check_taps := F6.kp
    b_check_taps := FunD.bindsN F6 fun _ _ _ _ _ _ us hl => match us, hl with | [_, _], _ => rfl
    f_are_so_many := F7
    k_are_so_many := F7.kp
    b_are_so_many := FunD.bindsN F7 fun _ _ _ _ _ _ us hl => match us, hl with | [_, _, _], _ => rfl
    f_check_start := F8
    k_check_start := F8.kp
    b_check_start := FunD.bindsN F8 fun _ _ _ _ _ _ us hl => match us, hl with | [_, _, _], _ => rfl
    f_check_wired := F9
    k_check_wired := F9.kp
    b_check_wired := FunD.bindsN F9 fun _ _ _ _ _ _ us hl => match us, hl with | [_, _, _], _ => rfl
    f_trimmed := F10
    k_trimmed := F10.kp
    b_trimmed := FunD.bindsN F10 fun _ _ _ _ _ _ us hl => match us, hl with | [_], _ => rfl
    f_product_of := F11
    k_product_of := F11.kp
    b_product_of := FunD.bindsN F11 fun _ _ _ _ _ _ us hl => match us, hl with | [_, _, _], _ => rfl
    f_low_of := F12
    k_low_of := F12.kp
    b_low_of := FunD.bindsN F12 fun _ _ _ _ _ _ us hl => match us, hl with | [_, _], _ => rfl
    f_fraction := F13
    k_fraction := F13.kp
    b_fraction := FunD.bindsN F13 fun _ _ _ _ _ _ us hl => match us, hl with | [_, _, _], _ => rfl
    f_expansion := F14
    k_expansion := F14.kp
    b_expansion := FunD.bindsN F14 fun _ _ _ _ _ _ us hl => match us, hl with | [_, _, _, _], _ => rfl
    f__law_taken := F15
    k__law_taken := F15.kp
    b__law_taken := FunD.bindsN F15 fun _ _ _ _ _ _ us hl => match us, hl with | [_, _], _ => rfl
    f__law_pick := F16
    k__law_pick := F16.kp
    b__law_pick := FunD.bindsN F16 fun _ _ _ _ _ _ us hl => match us, hl with | [_, _], _ => rfl
    f__law_prime := F17
    k__law_prime := F17.kp
    b__law_prime := FunD.bindsN F17 fun _ _ _ _ _ _ us hl => match us, hl with | [_], _ => rfl
    f__law_taps := F18
    k__law_taps := F18.kp
    b__law_taps := FunD.bindsN F18 fun _ _ _ _ _ _ us hl => match us, hl with | [_, _, _], _ => rfl
    f__law_trim := F19
    k__law_trim := F19.kp
    b__law_trim := FunD.bindsN F19 fun _ _ _ _ _ _ us hl => match us, hl with | [_], _ => rfl
    f__law_times := F20
    k__law_times := F20.kp
    b__law_times := FunD.bindsN F20 fun _ _ _ _ _ _ us hl => match us, hl with | [_, _, _], _ => rfl
    f__law_alike := F21
    k__law_alike := F21.kp
    b__law_alike := FunD.bindsN F21 fun _ _ _ _ _ _ us hl => match us, hl with | [_, _], _ => rfl
    f__law_run := F22
    k__law_run := F22.kp
    b__law_run := FunD.bindsN F22 fun _ _ _ _ _ _ us hl => match us, hl with | [_, _, _, _], _ => rfl
    f__law_row := F23
    k__law_row := F23.kp
    b__law_row := FunD.bindsN F23 fun _ _ _ _ _ _ us hl => match us, hl with | [_, _, _], _ => rfl
    f__law_poly := F24
    k__law_poly := F24.kp
    b__law_poly := FunD.bindsN F24 fun _ _ _ _ _ _ us hl => match us, hl with | [_, _, _], _ => rfl
    f__law_is_poly := F25
    k__law_is_poly := F25.kp
    b__law_is_poly := FunD.bindsN F25 fun _ _ _ _ _ _ us hl => match us, hl with | [_, _], _ => rfl
    f_law := F26
    k_law := F26.kp
    b_law := FunD.bindsN F26 fun _ _ _ _ _ _ us hl => match us, hl with | [_], _ => rfl }⟩
end IPL
open PySem PySem.W PySem.Calls PyProof.Rows
theorem PySem.Challenge.cw_taprows_k05_whole_fractions_holds : PySem.Challenge.rw_taprows_k05_whole_fractions.Holds := by
  w_on; o_law
  refine HandSHeadRun.head_any (r := OpenLaw.row PySem.Challenge.rw_taprows_k05_whole_fractions) (q := view (OpenLaw.row PySem.Challenge.rw_taprows_k05_whole_fractions).prog [44]) (H := IPL.hk) (ob := IPL.ob) (M := 6000) (loose := IPL.loose) (d := HandSHeadRun.topDef (OpenLaw.row PySem.Challenge.rw_taprows_k05_whole_fractions).prog 44) (kwd := []) IPL.ob_eq
    (by kernel_rfl) (fun s => by kernel_rfl) IPL.run_ok (by kernel_rfl) (by kernel_rfl) (by kernel_rfl) (by rfl) (by first | assumption | decide +kernel) (by decide +kernel) ⟨rfl, rfl, rfl, rfl, rfl, by decide +kernel⟩ ?hw ?hc
  case hw => w_witness2
  case hc =>
    refine L2.walk_ofE (l := PySem.Challenge.rw_taprows_k05_whole_fractions) (n := 63) (k := 30) (x := "script") (CX := L2.CX0) rfl (by decide) (by kernel_rfl) ⟨rfl, by decide, by decide⟩ ?F (fun _ _ _ _ z => z)
    intro w mg fa h Y G hmg0
    obtain ⟨K, KX, c, ce⟩ := Y
    have hmg : mg ("law" : PySem.Str) = some (.ref fa) := by
      have e : (HandSHeadRun.topDef (OpenLaw.row PySem.Challenge.rw_taprows_k05_whole_fractions).prog 44).name = ("law" : PySem.Str) := by kernel_rfl
      rw [← e]
      exact hmg0
    obtain ⟨fd, T⟩ := IPL.tx KX G c ce
    have e := hmg.symm.trans T.g_law
    cases e
    refine ⟨K, fd 26, IP.spI K (IPL.run 30 "law"), KX, fun s v => L2.FunD.bindsA T.f_law (ps := ["script"]) (fun _ _ _ _ _ _ us hl => match us, hl with | [_], _ => rfl) s [v] rfl, fun H a ns hl _ hS => ?_, fun base _ _ => (IPL.ih_all (P := (PySem.Challenge.rw_taprows_k05_whole_fractions).prog) (w := w) (base := base) T 30).i_law⟩
    exact IP.law_end hS (IPL.law_true ns hl)
end
