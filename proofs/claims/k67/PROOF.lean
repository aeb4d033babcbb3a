import PyProof.Rows.All
import PyProof.EqLayable
import Wide.All
import OpenK.AllK
import Wide.FinOn
import HandS.ForMost
import HandS.IsInst
import HandS.TupAny
import HandS.TupMul
import HandS.Zip
import HandS.Rev
import HandS.RevRange
import HandS.Walk
import HandS.Style
import HandS.Wide
import HandS.Iter
import KE.GoesMore
import KE.GoesEnum
import KE.KStateDown
import HandS.More
import HandS.WordsExc
import HandS.Defaults
import HandS.Head0
import HandS.Head1
import HandS.Head2
import HandS.HeadEnd
import HandS.HeadHook1
import HandS.HeadHook2
import HandS.WideBits
import HandS.Gcd
import HandS.Text
import KE.KTupSum
import PySem.Challenge.RW_taprows_k67_whole_registers_with_carry
section
set_option linter.all false
/-! IP: an environment of pure data with owned lists; what a piece of the text does to it, as a total function. -/
namespace IP
open PySem
abbrev D := PyData
/-- a list or tuple or text within the model's bounds -/
abbrev line : Nat := 16000000
inductive Slot where
  | un | dat (d : D) | own (ds : List D) | prm (ds : List D)
abbrev Env := List Slot
inductive Res where
  | dat (d : D) | new (ds : List D)
inductive Opd where
  | val (d : D) | at (i : Nat)
inductive Out where
  | nx | bk | ct | rt (r : Res)
@[simp] def Res.toD : Res → D
  | .dat d => d
  | .new ds => .list ds
abbrev Ev := Env → Option (Res × Env)
abbrev Eo := Env → Option (Opd × Env)
abbrev Et := Env → Option (Bool × Env)
abbrev Ea := Env → Option (List Opd × Env)
abbrev Es := Env → Option (Out × Env)
/-- a function of the text: its one list handed by reference (if it has one), the data; the answer, that list behind it -/
abbrev Fnc := Option (List D) → List D → Option (Res × Option (List D))
abbrev Call := String → Fnc

@[simp] def slotD : Slot → Option D
  | .dat d => some d
  | .own ds => some (.list ds)
  | .prm ds => some (.list ds)
  | .un => none
@[simp] def rd (δ : Env) : Opd → Option D
  | .val d => some d
  | .at i => (δ[i]?).bind slotD
@[simp] def rdAll (δ : Env) : List Opd → Option (List D)
  | [] => some []
  | o :: os => (rd δ o).bind fun d => (rdAll δ os).map fun ds => d :: ds
/-- what a variable gives as a value that is kept: an owned list is owned no more -/
@[simp] def freeze (δ : Env) (i : Nat) : Env := match δ[i]? with
  | some (.own ds) => δ.set i (.dat (.list ds))
  | _ => δ

/-- the script, as data: a list that is read only -/
def scr (ns : List Int) : D := .dict [(.none, .tuple (ns.map .int))]

/-! ### structural equality -/
mutual
def same : D → D → Bool
  | .none, .none => true
  | .bool a, .bool b => a == b
  | .int a, .int b => a == b
  | .str a, .str b => decide (a = b)
  | .list a, .list b => sameAll a b
  | .tuple a, .tuple b => sameAll a b
  | _, _ => false
def sameAll : List D → List D → Bool
  | [], [] => true
  | x :: xs, y :: ys => same x y && sameAll xs ys
  | _, _ => false
end
mutual
@[simp] def noList : D → Bool
  | .list _ => false
  | .dict _ => false
  | .tuple xs => noListAll xs
  | _ => true
@[simp] def noListAll : List D → Bool
  | [] => true
  | x :: xs => noList x && noListAll xs
end

/-! ### values -/
@[simp] def vC (d : D) : Ev := fun δ => some (.dat d, δ)
@[simp] def vVar (i : Nat) : Ev := fun δ => match δ[i]? with
  | some (.dat d) => some (.dat d, δ)
  | some (.own ds) => some (.dat (.list ds), freeze δ i)
  | _ => none
@[simp] def oVar (i : Nat) : Eo := fun δ => match δ[i]? with
  | some (.dat d) => some (.val d, δ)
  | some (.own _) => some (.at i, δ)
  | some (.prm _) => some (.at i, δ)
  | _ => none
@[simp] def oV (f : Ev) : Eo := fun δ => (f δ).map fun p => (.val p.1.toD, p.2)
@[simp] def fBin (op : D → D → Option Res) (f g : Eo) : Ev := fun δ =>
  (f δ).bind fun p => (g p.2).bind fun q => (rd q.2 p.1).bind fun x => (rd q.2 q.1).bind fun y => (op x y).map fun r => (r, q.2)
@[simp] def fUn (op : D → Option Res) (f : Eo) : Ev := fun δ => (f δ).bind fun p => (rd p.2 p.1).bind fun x => (op x).map fun r => (r, p.2)

/-! ### the operators on data -/
def intsOf : List D → Option (List Int)
  | [] => some []
  | .int i :: ds => (intsOf ds).map fun is => i :: is
  | _ => none
def boolsOf : List D → Option (List Bool)
  | [] => some []
  | .bool i :: ds => (boolsOf ds).map fun is => i :: is
  | _ => none
@[simp] def bAdd : D → D → Option Res
  | .int a, .int b => some (.dat (.int (a + b)))
  | .tuple a, .tuple b => if a.length + b.length ≤ line then some (.dat (.tuple (a ++ b))) else none
  | .list a, .list b => if a.length + b.length ≤ line then some (.new (a ++ b)) else none
  | _, _ => none
@[simp] def bSub : D → D → Option Res
  | .int a, .int b => some (.dat (.int (a - b)))
  | _, _ => none
@[simp] def bMul : D → D → Option Res
  | .int a, .int b => if ((-(2 ^ 64) < a ∧ a < 2 ^ 64) ∨ (-(2 ^ 64) < b ∧ b < 2 ^ 64)) ∨ a.natAbs.log2 + b.natAbs.log2 < 1000000 then some (.dat (.int (a * b))) else none
  | .list a, .int k => if -(2 ^ 63) ≤ k ∧ k < 2 ^ 63 ∧ a.length * k.toNat ≤ line then some (.new (List.replicate k.toNat a).flatten) else none
  | .tuple a, .int k => if -(2 ^ 62) ≤ k ∧ k ≤ 2 ^ 62 ∧ a.length * k.toNat ≤ line then some (.dat (.tuple (List.replicate k.toNat a).flatten)) else none
  | _, _ => none
@[simp] def bFdiv : D → D → Option Res
  | .int a, .int b => if 0 < b ∧ (b < 1073741824 ∨ b.natAbs.log2 < 9000) then some (.dat (.int (a / b))) else none
  | _, _ => none
@[simp] def bMod : D → D → Option Res
  | .int a, .int b => if 0 < b then some (.dat (.int (a % b))) else none
  | _, _ => none
@[simp] def bPow : D → D → Option Res
  | .int a, .int b => if 0 ≤ b ∧ b ≤ 1000000 ∧ a.natAbs < 2 ^ 64 then some (.dat (.int (a ^ b.toNat))) else none
  | _, _ => none
@[simp] def bShr : D → D → Option Res
  | .int a, .int b => if 0 ≤ b then some (.dat (.int (a / 2 ^ b.toNat))) else none
  | _, _ => none
@[simp] def bLt : D → D → Option Res
  | .int a, .int b => some (.dat (.bool (decide (a < b))))
  | _, _ => none
@[simp] def bLe : D → D → Option Res
  | .int a, .int b => some (.dat (.bool (decide (a ≤ b))))
  | _, _ => none
@[simp] def bGt : D → D → Option Res
  | .int a, .int b => some (.dat (.bool (decide (b < a))))
  | _, _ => none
@[simp] def bGe : D → D → Option Res
  | .int a, .int b => some (.dat (.bool (decide (b ≤ a))))
  | _, _ => none
@[simp] def bEq (a b : D) : Option Res := if SeqAt.shaped a = true ∧ SeqAt.shaped b = true then some (.dat (.bool (PyData.eqv a b))) else none
@[simp] def bNe (a b : D) : Option Res := if SeqAt.shaped a = true ∧ SeqAt.shaped b = true then some (.dat (.bool (!PyData.eqv a b))) else none
@[simp] def bIn : D → D → Option Res
  | .int i, .list ds => (intsOf ds).map fun is => .dat (.bool (decide (i ∈ is)))
  | .int i, .tuple ds => (intsOf ds).map fun is => .dat (.bool (decide (i ∈ is)))
  | _, _ => none
@[simp] def bNotIn : D → D → Option Res
  | .int i, .list ds => (intsOf ds).map fun is => .dat (.bool (!decide (i ∈ is)))
  | .int i, .tuple ds => (intsOf ds).map fun is => .dat (.bool (!decide (i ∈ is)))
  | _, _ => none
@[simp] def uNeg : D → Option Res
  | .int a => some (.dat (.int (-a)))
  | _ => none
@[simp] def isNone : D → Bool
  | .none => true
  | _ => false
@[simp] def uIsN (d : D) : Option Res := some (.dat (.bool (isNone d)))
@[simp] def uNotN (d : D) : Option Res := some (.dat (.bool (!isNone d)))
/-- an int within -n .. n - 1 as a place -/
def ixN (n : Nat) (i : Int) : Option Nat := if 0 ≤ i then (if i < n then some i.toNat else none) else if -(n : Int) ≤ i then some (i + n).toNat else none
def atD (xs : List D) (i : Int) : Option D := (ixN xs.length i).bind fun j => xs[j]?
@[simp] def bIx : D → D → Option Res
  | .list xs, .int i => (atD xs i).map .dat
  | .tuple xs, .int i => (atD xs i).map .dat
  | .dict [(.none, .tuple xs)], .int i => (atD xs i).map .dat
  | _, _ => none
def clampIx (n d : Nat) : Option Int → Nat
  | none => d
  | some i => if i < 0 then (i + (n : Int)).toNat else min i.toNat n
def cutD (xs : List D) (lo hi : Option Int) : List D := (xs.drop (clampIx xs.length 0 lo)).take (clampIx xs.length xs.length hi - clampIx xs.length 0 lo)
/-- an optional bound of a slice -/
@[simp] def pNo : Env → Option (Option Int × Env) := fun δ => some (none, δ)
@[simp] def pSo (f : Eo) : Env → Option (Option Int × Env) := fun δ => (f δ).bind fun p => match p.1 with
  | .val (.int i) => some (some i, p.2)
  | _ => none
@[simp] def fSl (f : Eo) (lo hi : Env → Option (Option Int × Env)) : Ev := fun δ =>
  (f δ).bind fun p => (lo p.2).bind fun l => (hi l.2).bind fun h => (rd h.2 p.1).bind fun x => match x with
    | .list xs => some (.new (cutD xs l.1 h.1), h.2)
    | .tuple xs => some (.dat (.tuple (cutD xs l.1 h.1)), h.2)
    | _ => none

/-! ### tests -/
@[simp] def truth : D → Option Bool
  | .none => some false
  | .bool b => some b
  | .int i => some (i != 0)
  | .list xs => some (!xs.isEmpty)
  | .tuple xs => some (!xs.isEmpty)
  | _ => none
@[simp] def tV (f : Eo) : Et := fun δ => (f δ).bind fun p => (rd p.2 p.1).bind fun d => (truth d).map fun b => (b, p.2)
/-- a value that is a bool -/
@[simp] def tB (f : Ev) : Et := fun δ => (f δ).bind fun p => match p.1 with
  | .dat (.bool b) => some (b, p.2)
  | _ => none
@[simp] def tAnd (f g : Et) : Et := fun δ => (f δ).bind fun p => if p.1 = true then g p.2 else some (false, p.2)
@[simp] def tOr (f g : Et) : Et := fun δ => (f δ).bind fun p => if p.1 = true then some (true, p.2) else g p.2
@[simp] def tNot (f : Et) : Et := fun δ => (f δ).map fun p => (!p.1, p.2)
/-- the same as values -/
def vAnd (f g : Ev) : Ev := fun δ => (f δ).bind fun p => match p.1 with
  | .dat (.bool true) => g p.2
  | .dat (.bool false) => some (.dat (.bool false), p.2)
  | _ => none
def vOr (f g : Ev) : Ev := fun δ => (f δ).bind fun p => match p.1 with
  | .dat (.bool true) => some (.dat (.bool true), p.2)
  | .dat (.bool false) => g p.2
  | _ => none
@[simp] def vNot (f : Ev) : Ev := fun δ => (f δ).bind fun p => match p.1 with
  | .dat (.bool b) => some (.dat (.bool (!b)), p.2)
  | _ => none
@[simp] def vIte (t : Et) (f g : Ev) : Ev := fun δ => (t δ).bind fun p => if p.1 = true then f p.2 else g p.2
def vChain (o1 o2 : D → D → Option Res) (f g h : Eo) : Ev := fun δ =>
  (f δ).bind fun p => (g p.2).bind fun q => (rd q.2 p.1).bind fun x => (rd q.2 q.1).bind fun y => (o1 x y).bind fun r => match r with
    | .dat (.bool true) => (h q.2).bind fun u => (rd u.2 q.1).bind fun y' => (rd u.2 u.1).bind fun z => (o2 y' z).map fun r => (r, u.2)
    | .dat (.bool false) => some (.dat (.bool false), q.2)
    | _ => none

/-! ### displays, calls -/
@[simp] def aNil : Ea := fun δ => some ([], δ)
@[simp] def aCons (f : Eo) (g : Ea) : Ea := fun δ => (f δ).bind fun p => (g p.2).map fun q => (p.1 :: q.1, q.2)
@[simp] def vals : List Opd → Option (List D)
  | [] => some []
  | .val d :: os => (vals os).map fun ds => d :: ds
  | .at _ :: _ => none
@[simp] def vTup (f : Ea) : Ev := fun δ => (f δ).bind fun p => (vals p.1).bind fun ds => if ds.length ≤ line then some (.dat (.tuple ds), p.2) else none
@[simp] def vLst (f : Ea) : Ev := fun δ => (f δ).bind fun p => (vals p.1).bind fun ds => if ds.length ≤ line then some (.new ds, p.2) else none
/-- a builtin on data -/
@[simp] def vBi (b : List D → Option Res) (f : Ea) : Ev := fun δ => (f δ).bind fun p => (rdAll p.2 p.1).bind fun ds => (b ds).map fun r => (r, p.2)
def freezeAll : List Opd → Env → Env
  | [], δ => δ
  | .val _ :: os, δ => freezeAll os δ
  | .at i :: os, δ => freezeAll os (freeze δ i)
@[simp] def anyAt : List Opd → Bool
  | [] => false
  | .val _ :: os => anyAt os
  | .at _ :: _ => true
/-- a call without a list by reference: owned lists are read in place where no list comes back -/
@[simp] def vCall (c : Fnc) (f : Ea) : Ev := fun δ => (f δ).bind fun p => (rdAll p.2 p.1).bind fun ds => (c none ds).bind fun r => match r with
  | (r, none) => if anyAt p.1 = false then some (r, p.2) else match r with
    | .dat d => if noList d = true then some (.dat d, p.2) else none
    | .new ds => if noListAll ds = true then some (.new ds, p.2) else none
  | _ => none
/-- a call with the list of the variable i by reference -/
@[simp] def ownAt (δ : Env) (i : Nat) : Bool := match δ[i]? with
  | some (.own _) => true
  | some (.prm _) => true
  | _ => false
@[simp] def vCallR (c : Fnc) (i : Nat) (f : Ea) : Ev := fun δ => (if ownAt δ i = true then f δ else none).bind fun p => (vals p.1).bind fun ds => match p.2[i]? with
  | some (.own xs) => (c (some xs) ds).bind fun r => match r.2 with
    | some ys => some (r.1, p.2.set i (.own ys))
    | none => none
  | some (.prm xs) => (c (some xs) ds).bind fun r => match r.2 with
    | some ys => some (r.1, p.2.set i (.prm ys))
    | none => none
  | _ => none
inductive Ty where
  | int | bool | str | list | tuple
  deriving DecidableEq
@[simp] def isTy : Ty → D → Option Bool
  | _, .dict _ => none
  | .int, .int _ => some true
  | .int, .bool _ => some true
  | .bool, .bool _ => some true
  | .str, .str _ => some true
  | .list, .list _ => some true
  | .tuple, .tuple _ => some true
  | _, _ => some false
@[simp] def isAny : List Ty → D → Option Bool
  | [], _ => some false
  | t :: ts, d => (isTy t d).bind fun b => if b = true then some true else isAny ts d
@[simp] def uIs (ts : List Ty) (d : D) : Option Res := (isAny ts d).map fun b => .dat (.bool b)

/-! ### built-in functions -/
@[simp] def biLen : List D → Option Res
  | [.list xs] => some (.dat (.int xs.length))
  | [.tuple xs] => some (.dat (.int xs.length))
  | [.dict [(.none, .tuple xs)]] => some (.dat (.int xs.length))
  | _ => none
@[simp] def biInt : List D → Option Res
  | [.int i] => some (.dat (.int i))
  | [.bool b] => some (.dat (.int (if b then 1 else 0)))
  | _ => none
@[simp] def biTuple : List D → Option Res
  | [.list xs] => some (.dat (.tuple xs))
  | [.tuple xs] => some (.dat (.tuple xs))
  | _ => none
@[simp] def biList : List D → Option Res
  | [.list xs] => some (.new xs)
  | [.tuple xs] => some (.new xs)
  | _ => none
@[simp] def biSum : List D → Option Res
  | [.list xs] => (intsOf xs).map fun is => .dat (.int is.sum)
  | _ => none
@[simp] def biAll : List D → Option Res
  | [.list xs] => (boolsOf xs).map fun bs => .dat (.bool (bs.all id))
  | _ => none
@[simp] def biAny : List D → Option Res
  | [.list xs] => (boolsOf xs).map fun bs => .dat (.bool (bs.any id))
  | _ => none
@[simp] def biAbs : List D → Option Res
  | [.int i] => some (.dat (.int (if i < 0 then -i else i)))
  | _ => none
@[simp] def biMax : List D → Option Res
  | [.int i, .int j] => some (.dat (.int (if j > i then j else i)))
  | _ => none
@[simp] def biMin : List D → Option Res
  | [.int i, .int j] => some (.dat (.int (if j < i then j else i)))
  | _ => none

/-! ### targets and what is walked -/
inductive Tg where
  | nm (i : Nat) | tup (is : List Nat)
@[simp] def Tg.slots : Tg → List Nat
  | .nm i => [i]
  | .tup is => is
@[simp] def setSlot (δ : Env) (i : Nat) (s : Slot) : Option Env := match δ[i]? with
  | some (.prm _) => none
  | some _ => some (δ.set i s)
  | none => none
@[simp] def setDs : Env → List Nat → List D → Option Env
  | δ, [], [] => some δ
  | δ, i :: is, d :: ds => (setSlot δ i (.dat d)).bind fun δ' => setDs δ' is ds
  | _, _, _ => none
@[simp] def Tg.put : Tg → D → Env → Option Env
  | .nm i, d, δ => setSlot δ i (.dat d)
  | .tup is, .tuple ds, δ => setDs δ is ds
  | .tup _, _, _ => none
/-- what is walked: the items, and the variable whose owned list is walked in place -/
abbrev Ei := Env → Option ((List D × Option Nat) × Env)
@[simp] def itemsOf : D → Option (List D)
  | .list xs => some xs
  | .tuple xs => some xs
  | _ => none
def own? : Opd → Option Nat
  | .val _ => none
  | .at i => some i
@[simp] def iE (f : Eo) : Ei := fun δ => (f δ).bind fun p => (rd p.2 p.1).bind fun d => (itemsOf d).map fun xs => ((xs, own? p.1), p.2)
def rangeD (lo : Int) (n : Nat) : List D := (List.range n).map fun k => .int (lo + (k : Nat))
def iRange1 (f : Eo) : Ei := fun δ => (f δ).bind fun p => match p.1 with
  | .val (.int j) => if -(2 ^ 62) ≤ j ∧ j < 2 ^ 62 then some ((rangeD 0 j.toNat, none), p.2) else none
  | _ => none
def iRange2 (f g : Eo) : Ei := fun δ => (f δ).bind fun p => (g p.2).bind fun q => match p.1, q.1 with
  | .val (.int i), .val (.int j) => if -(2 ^ 62) ≤ i ∧ i < 2 ^ 62 ∧ -(2 ^ 62) ≤ j ∧ j < 2 ^ 62 then some ((rangeD i (j - i).toNat, none), q.2) else none
  | _, _ => none
/-- range(a, b, -1) -/
def downD (hi : Int) (n : Nat) : List D := (List.range n).map fun k => .int (hi - (k : Nat))
def iDown (f g : Eo) : Ei := fun δ => (f δ).bind fun p => (g p.2).bind fun q => match p.1, q.1 with
  | .val (.int i), .val (.int j) => if -(2 ^ 60) ≤ i ∧ i < 2 ^ 60 ∧ -(2 ^ 60) ≤ j ∧ j < 2 ^ 60 then some ((downD i (i - j).toNat, none), q.2) else none
  | _, _ => none
def enumD : Nat → List D → List D
  | _, [] => []
  | k, d :: ds => .tuple [.int k, d] :: enumD (k + 1) ds
@[simp] def iEnum (f : Eo) : Ei := fun δ => (f δ).bind fun p => match p.1 with
  | .val (.list xs) => some ((enumD 0 xs, none), p.2)
  | .val (.tuple xs) => some ((enumD 0 xs, none), p.2)
  | _ => none
/-- zip, of two that are data -/
def zipD : List D → List D → List D
  | x :: xs, y :: ys => .tuple [x, y] :: zipD xs ys
  | _, _ => []
@[simp] def iZip (f g : Eo) : Ei := fun δ => (f δ).bind fun p => (g p.2).bind fun q => match p.1, q.1 with
  | .val (.list xs), .val (.list ys) => some ((zipD xs ys, none), q.2)
  | .val (.tuple xs), .val (.tuple ys) => some ((zipD xs ys, none), q.2)
  | _, _ => none
/-- reversed(range(n)), reversed(range(a, b)) -/
def iRevR1 (f : Eo) : Ei := fun δ => (f δ).bind fun p => match p.1 with
  | .val (.int j) => if -(2 ^ 60) ≤ j ∧ j < 2 ^ 60 then some ((downD ((j.toNat : Int) - 1) j.toNat, none), p.2) else none
  | _ => none
/-- an int that a range can have -/
def small (i : Int) : Bool := decide (-(2 ^ 62) ≤ i ∧ i < 2 ^ 62)
def small60 (i : Int) : Bool := decide (-(2 ^ 60) ≤ i ∧ i < 2 ^ 60)
theorem small_of {i : Int} (h : -1000000000 ≤ i ∧ i ≤ 1000000000) : small i = true := decide_eq_true ⟨by omega, by omega⟩
theorem small60_of {i : Int} (h : -1000000000 ≤ i ∧ i ≤ 1000000000) : small60 i = true := decide_eq_true ⟨by omega, by omega⟩
theorem iRange1_s (f : Eo) (δ : Env) : iRange1 f δ = (f δ).bind fun p => match p.1 with
    | .val (.int j) => if small j = true then some ((rangeD 0 j.toNat, none), p.2) else none
    | _ => none := by
  unfold iRange1 small
  congr 1
  funext p
  split <;> simp only [decide_eq_true_eq]
theorem iRange2_s (f g : Eo) (δ : Env) : iRange2 f g δ = (f δ).bind fun p => (g p.2).bind fun q => match p.1, q.1 with
    | .val (.int i), .val (.int j) => if small i = true ∧ small j = true then some ((rangeD i (j - i).toNat, none), q.2) else none
    | _, _ => none := by
  unfold iRange2 small
  congr 1
  funext p
  congr 1
  funext q
  split <;> simp only [decide_eq_true_eq, and_assoc]
theorem iDown_s (f g : Eo) (δ : Env) : iDown f g δ = (f δ).bind fun p => (g p.2).bind fun q => match p.1, q.1 with
    | .val (.int i), .val (.int j) => if small60 i = true ∧ small60 j = true then some ((downD i (i - j).toNat, none), q.2) else none
    | _, _ => none := by
  unfold iDown small60
  congr 1
  funext p
  congr 1
  funext q
  split <;> simp only [decide_eq_true_eq, and_assoc]
theorem iRange1_at {f : Eo} {δ δ1 : Env} {j : Int} (h1 : f δ = some (.val (.int j), δ1)) (hj : -1000000000 ≤ j ∧ j ≤ 1000000000) : iRange1 f δ = some ((rangeD 0 j.toNat, none), δ1) := by
  rw [iRange1_s, h1]
  simp only [Option.bind_some]
  rw [if_pos (small_of hj)]
theorem iRange2_at {f g : Eo} {δ δ1 δ2 : Env} {i j : Int} (h1 : f δ = some (.val (.int i), δ1)) (h2 : g δ1 = some (.val (.int j), δ2)) (hi : -1000000000 ≤ i ∧ i ≤ 1000000000) (hj : -1000000000 ≤ j ∧ j ≤ 1000000000) : iRange2 f g δ = some ((rangeD i (j - i).toNat, none), δ2) := by
  rw [iRange2_s, h1]
  simp only [Option.bind_some]
  rw [h2]
  simp only [Option.bind_some]
  rw [if_pos ⟨small_of hi, small_of hj⟩]
theorem iDown_at {f g : Eo} {δ δ1 δ2 : Env} {i j : Int} (h1 : f δ = some (.val (.int i), δ1)) (h2 : g δ1 = some (.val (.int j), δ2)) (hi : -1000000000 ≤ i ∧ i ≤ 1000000000) (hj : -1000000000 ≤ j ∧ j ≤ 1000000000) : iDown f g δ = some ((downD i (i - j).toNat, none), δ2) := by
  rw [iDown_s, h1]
  simp only [Option.bind_some]
  rw [h2]
  simp only [Option.bind_some]
  rw [if_pos ⟨small60_of hi, small60_of hj⟩]
/-- is the owned list still this one (as an owned list, or frozen)? -/
def still (δ : Env) (xs : List D) : Option Nat → Bool
  | none => true
  | some i => match δ[i]? with
    | some s => match slotD s with
      | some (.list ys) => sameAll xs ys
      | _ => false
    | none => false

/-! ### comprehensions -/
@[simp] def unAll : List Nat → Env → Option Env
  | [], δ => some δ
  | i :: is, δ => match δ[i]? with
    | some .un => unAll is δ
    | some (.dat _) => unAll is (δ.set i .un)
    | _ => none
@[simp] def backAll (δ0 : Env) : List Nat → Env → Env
  | [], δ => δ
  | i :: is, δ => backAll δ0 is (match δ0[i]? with
    | some s => δ.set i s
    | none => δ)
/-- the turns of a comprehension: each begins with its own names unset -/
def lcGo (vs : List Nat) (g : Tg) (t : Et) (e : Ev) (src : List D) (ow : Option Nat) : List D → Env → Option (List D × Env)
  | [], δ => if still δ src ow = true then some ([], δ) else none
  | x :: xs, δ => if still δ src ow = true then (g.put x δ).bind fun δ1 => (t δ1).bind fun p => if p.1 = true then
      (e p.2).bind fun r => (unAll vs r.2).bind fun δ2 => (lcGo vs g t e src ow xs δ2).map fun q => (r.1.toD :: q.1, q.2)
    else (unAll vs p.2).bind fun δ2 => lcGo vs g t e src ow xs δ2 else none
@[simp] def tYes : Et := fun δ => some (true, δ)
@[simp] def vLc (vs : List Nat) (it : Ei) (g : Tg) (t : Et) (e : Ev) : Ev := fun δ => (it δ).bind fun p => (unAll vs p.2).bind fun δ1 =>
  if p.1.1.length ≤ line then (lcGo vs g t e p.1.1 p.1.2 p.1.1 δ1).map fun q => (.new q.1, backAll p.2 vs q.2) else none

/-! ### statements -/
@[simp] def slotOf : Res → Slot
  | .dat d => .dat d
  | .new ds => .own ds
@[simp] def sPass : Es := fun δ => some (.nx, δ)
@[simp] def sBreak : Es := fun δ => some (.bk, δ)
@[simp] def sCont : Es := fun δ => some (.ct, δ)
@[simp] def sNever : Es := fun _ => none
@[simp] def sSeq (f g : Es) : Es := fun δ => (f δ).bind fun p => match p.1 with
  | .nx => g p.2
  | o => some (o, p.2)
@[simp] def sSet (i : Nat) (f : Ev) : Es := fun δ => (f δ).bind fun p => (setSlot p.2 i (slotOf p.1)).map fun δ' => (.nx, δ')
/-- a, b = e, e a tuple -/
@[simp] def sUnp (is : List Nat) (f : Ev) : Es := fun δ => (f δ).bind fun p => match p.1 with
  | .dat (.tuple ds) => (setDs p.2 is ds).map fun δ' => (.nx, δ')
  | _ => none
/-- several values, fresh lists kept owned; then several names at once -/
@[simp] def pEvs : List Ev → Env → Option (List Res × Env)
  | [], δ => some ([], δ)
  | f :: fs, δ => (f δ).bind fun p => (pEvs fs p.2).map fun q => (p.1 :: q.1, q.2)
@[simp] def setRs : Env → List Nat → List Res → Option Env
  | δ, [], [] => some δ
  | δ, i :: is, r :: rs => (setSlot δ i (slotOf r)).bind fun δ' => setRs δ' is rs
  | _, _, _ => none
@[simp] def sPar (is : List Nat) (fs : List Ev) : Es := fun δ => (pEvs fs δ).bind fun p => (setRs p.2 is p.1).map fun δ' => (.nx, δ')
@[simp] def sEx (f : Ev) : Es := fun δ => (f δ).map fun p => (.nx, p.2)
@[simp] def sRet (f : Ev) : Es := fun δ => (f δ).map fun p => (.rt p.1, p.2)
@[simp] def sRetN : Es := fun δ => some (.rt (.dat .none), δ)
@[simp] def sIf (t : Et) (f g : Es) : Es := fun δ => (t δ).bind fun p => if p.1 = true then f p.2 else g p.2
/-- the owned list of a variable changes -/
@[simp] def withOwn (δ : Env) (i : Nat) (k : List D → Option (List D)) : Option Env := match δ[i]? with
  | some (.own xs) => (k xs).map fun ys => δ.set i (.own ys)
  | some (.prm xs) => (k xs).map fun ys => δ.set i (.prm ys)
  | _ => none
@[simp] def sApp (i : Nat) (f : Ev) : Es := fun δ => (if ownAt δ i = true then f δ else none).bind fun p => (withOwn p.2 i fun xs => if xs.length < line then some (xs ++ [p.1.toD]) else none).map fun δ' => (.nx, δ')
@[simp] def sPop (i : Nat) : Es := fun δ => (withOwn δ i fun xs => if xs.isEmpty = true then none else some xs.dropLast).map fun δ' => (.nx, δ')
/-- x[i] = e: e first, then the place -/
@[simp] def sSetIx (i : Nat) (ix : Eo) (f : Eo) : Es := fun δ => (f δ).bind fun p => (if ownAt p.2 i = true then ix p.2 else none).bind fun q => match p.1, q.1 with
  | .val d, .val (.int k) => (withOwn q.2 i fun xs => (ixN xs.length k).map fun j => xs.set j d).map fun δ' => (.nx, δ')
  | _, _ => none
/-- x op= e, of ints -/
@[simp] def sAug (i : Nat) (op : Int → Int → Int) (f : Eo) : Es := fun δ => match δ[i]? with
  | some (.dat (.int a)) => (f δ).bind fun p => match p.1 with
    | .val (.int b) => (setSlot p.2 i (.dat (.int (op a b)))).map fun δ' => (.nx, δ')
    | _ => none
  | _ => none
/-- the turns of a for -/
def forGo (g : Tg) (b : Es) : List D → Env → Option (Out × Env)
  | [], δ => some (.nx, δ)
  | x :: xs, δ => (g.put x δ).bind fun δ1 => (b δ1).bind fun p => match p.1 with
    | .nx => forGo g b xs p.2
    | .ct => forGo g b xs p.2
    | .bk => some (.nx, p.2)
    | .rt r => some (.rt r, p.2)
@[simp] def sFor (it : Ei) (g : Tg) (b : Es) : Es := fun δ => (it δ).bind fun p => if p.1.2 = none then forGo g b p.1.1 p.2 else none
/-- the turns of a while, at most so many -/
def whileGo (t : Et) (b : Es) : Nat → Env → Option (Out × Env)
  | 0, _ => none
  | n + 1, δ => (t δ).bind fun p => if p.1 = true then (b p.2).bind fun q => match q.1 with
      | .nx => whileGo t b n q.2
      | .ct => whileGo t b n q.2
      | .bk => some (.nx, q.2)
      | .rt r => some (.rt r, q.2)
    else some (.nx, p.2)
def turns : Nat := 1000000
@[simp] def sWhile (t : Et) (b : Es) : Es := fun δ => whileGo t b turns δ

/-! ### functions -/
/-- the parameters (the first by reference: byRef), the number of names, the body -/
structure Fn where
  byRef : Bool
  nps : Nat
  names : Nat
  body : Es
@[simp] def Fn.run (F : Fn) : Fnc := fun r ds =>
  let δ0 : Option Env := match F.byRef, r with
    | true, some xs => if ds.length + 1 = F.nps then some (.prm xs :: (ds.map .dat ++ List.replicate (F.names - F.nps) .un)) else none
    | false, none => if ds.length = F.nps then some (ds.map .dat ++ List.replicate (F.names - F.nps) .un) else none
    | _, _ => none
  δ0.bind fun δ0 => (F.body δ0).bind fun p =>
    let r : Option Res := match p.1 with
      | .nx => some (.dat .none)
      | .rt r => some r
      | _ => none
    r.bind fun r => match F.byRef, (p.2[0]? : Option Slot) with
      | true, some (.prm ys) => some (r, some ys)
      | false, _ => some (r, none)
      | _, _ => none
/-! ### the same, for simp -/
@[simp] theorem still_none (δ : Env) (xs : List D) : still δ xs none = true := rfl
@[simp] def asB : Res → Option Bool
  | .dat (.bool b) => some b
  | _ => none
@[simp] theorem vAnd_s (f g : Ev) (δ : Env) : vAnd f g δ = (f δ).bind fun p => (asB p.1).bind fun b => if b = true then g p.2 else some (.dat (.bool false), p.2) := by
  unfold vAnd
  cases f δ with
  | none => rfl
  | some p =>
    obtain ⟨r, δ'⟩ := p
    cases r with
    | new _ => rfl
    | dat d => cases d with
      | bool b => cases b <;> rfl
      | _ => rfl
@[simp] theorem vOr_s (f g : Ev) (δ : Env) : vOr f g δ = (f δ).bind fun p => (asB p.1).bind fun b => if b = true then some (.dat (.bool true), p.2) else g p.2 := by
  unfold vOr
  cases f δ with
  | none => rfl
  | some p =>
    obtain ⟨r, δ'⟩ := p
    cases r with
    | new _ => rfl
    | dat d => cases d with
      | bool b => cases b <;> rfl
      | _ => rfl
@[simp] theorem vChain_s (o1 o2 : D → D → Option Res) (f g h : Eo) (δ : Env) : vChain o1 o2 f g h δ =
    (f δ).bind fun p => (g p.2).bind fun q => (rd q.2 p.1).bind fun x => (rd q.2 q.1).bind fun y => (o1 x y).bind fun r => (asB r).bind fun b =>
      if b = true then (h q.2).bind fun u => (rd u.2 q.1).bind fun y' => (rd u.2 u.1).bind fun z => (o2 y' z).map fun r => (r, u.2) else some (.dat (.bool false), q.2) := by
  unfold vChain
  congr 1
  funext p
  congr 1
  funext q
  congr 1
  funext x
  congr 1
  funext y
  congr 1
  funext r
  cases r with
  | new _ => rfl
  | dat d => cases d with
    | bool b => cases b <;> rfl
    | _ => rfl
end IP
end
section
set_option Elab.async false
set_option linter.all false
set_option maxRecDepth 100000
set_option maxHeartbeats 2000000
/-! Snd: what a piece of the text does to the environment of data is what IP says. -/
namespace IP
open PySem L2

def Sub (A B : Hp) : Prop := ∀ a o, A a = some o → B a = some o
theorem Sub.refl (H : Hp) : Sub H H := fun _ _ h => h
theorem Sub.trans {A B C : Hp} (h : Sub A B) (g : Sub B C) : Sub A C := fun a o e => g a o (h a o e)
theorem Sub.new {H : Hp} {p : Addr} {o : HO} (h : H p = none) : Sub H (upd H p o) := fun a u e => by
  rw [upd_ne (ne_of_none e h)]
  exact e
theorem Sub.none {A B : Hp} (h : Sub A B) {p : Addr} (e : B p = Option.none) : A p = Option.none := by
  cases q : A p with
  | none => rfl
  | some o =>
    rw [h p o q] at e
    cases e

theorem Rd.sub {A B : Hp} (h : Sub A B) {a : Addr} {u : HO} (r : Rd A a u) : Rd B a u := by
  rcases r with r | ⟨o, r⟩
  · exact .inl (h _ _ r)
  · exact .inr ⟨o, h _ _ r⟩
theorem SqL.sub {A B : Hp} (h : Sub A B) {K : PySem.W.Frag} {a : Addr} {xs : List V} (r : SqL K A a xs) : SqL K B a xs := by
  rcases r with r | r
  · exact .inl (Rd.sub h r)
  · exact .inr r
theorem SqT.sub {A B : Hp} (h : Sub A B) {K : PySem.W.Frag} {a : Addr} {xs : List V} (r : SqT K A a xs) : SqT K B a xs := by
  rcases r with r | r
  · exact .inl (Rd.sub h r)
  · exact .inr r

/-! ### a value and its data -/
mutual
inductive Rel (K : PySem.W.Frag) (H : Hp) : V → D → Prop
  | non : Rel K H .non .none
  | bl (b : Bool) : Rel K H (.bl b) (.bool b)
  | int (i : Int) : Rel K H (.int i) (.int i)
  | str (x : Str) : Rel K H (.str x) (.str x)
  | lst {a : Addr} {xs : List V} {ds : List D} : H a = some (.lst xs) → RelAll K H xs ds → Rel K H (.ref a) (.list ds)
  | tup {a : Addr} {xs : List V} {ds : List D} : SqT K H a xs → RelAll K H xs ds → Rel K H (.ref a) (.tuple ds)
  | scr {a : Addr} {ns : List Int} : SqL K H a (ns.map V.int) → Rel K H (.ref a) (scr ns)
inductive RelAll (K : PySem.W.Frag) (H : Hp) : List V → List D → Prop
  | nil : RelAll K H [] []
  | cons {v : V} {vs : List V} {d : D} {ds : List D} : Rel K H v d → RelAll K H vs ds → RelAll K H (v :: vs) (d :: ds)
end
section
variable {K : PySem.W.Frag} {A B : Hp}
mutual
theorem Rel.sub (h : Sub A B) : ∀ {v : V} {d : D}, Rel K A v d → Rel K B v d
  | _, _, .non => .non
  | _, _, .bl b => .bl b
  | _, _, .int i => .int i
  | _, _, .str x => .str x
  | _, _, .lst e r => .lst (h _ _ e) (RelAll.sub h r)
  | _, _, .tup e r => .tup (SqT.sub h e) (RelAll.sub h r)
  | _, _, .scr e => .scr (SqL.sub h e)
theorem RelAll.sub (h : Sub A B) : ∀ {vs : List V} {ds : List D}, RelAll K A vs ds → RelAll K B vs ds
  | _, _, .nil => .nil
  | _, _, .cons r t => .cons (Rel.sub h r) (RelAll.sub h t)
end
theorem RelAll.length : ∀ {vs : List V} {ds : List D}, RelAll K A vs ds → vs.length = ds.length
  | _, _, .nil => rfl
  | _, _, .cons _ t => by rw [List.length_cons, List.length_cons, RelAll.length t]
theorem RelAll.append : ∀ {vs ws : List V} {ds es : List D}, RelAll K A vs ds → RelAll K A ws es → RelAll K A (vs ++ ws) (ds ++ es)
  | _, _, _, _, .nil, q => q
  | _, _, _, _, .cons r t, q => .cons r (RelAll.append t q)
theorem RelAll.get : ∀ {vs : List V} {ds : List D} {i : Nat} {d : D}, RelAll K A vs ds → ds[i]? = some d → ∃ v, vs[i]? = some v ∧ Rel K A v d
  | _, _, _, _, .nil, e => by simp at e
  | _, _, 0, _, .cons r t, e => by
    simp at e
    subst e
    exact ⟨_, rfl, r⟩
  | _, _, i + 1, _, .cons r t, e => by
    obtain ⟨v, h1, h2⟩ := RelAll.get (i := i) t (by simpa using e)
    exact ⟨v, by simpa using h1, h2⟩
theorem RelAll.getV : ∀ {vs : List V} {ds : List D} {i : Nat} {v : V}, RelAll K A vs ds → vs[i]? = some v → ∃ d, ds[i]? = some d ∧ Rel K A v d
  | _, _, _, _, .nil, e => by simp at e
  | _, _, 0, _, .cons r t, e => by
    simp at e
    subst e
    exact ⟨_, rfl, r⟩
  | _, _, i + 1, _, .cons r t, e => by
    obtain ⟨v, h1, h2⟩ := RelAll.getV (i := i) t (by simpa using e)
    exact ⟨v, by simpa using h1, h2⟩
theorem RelAll.take : ∀ {vs : List V} {ds : List D} (n : Nat), RelAll K A vs ds → RelAll K A (vs.take n) (ds.take n)
  | _, _, 0, _ => .nil
  | _, _, _ + 1, .nil => .nil
  | _, _, n + 1, .cons r t => .cons r (RelAll.take n t)
theorem RelAll.drop : ∀ {vs : List V} {ds : List D} (n : Nat), RelAll K A vs ds → RelAll K A (vs.drop n) (ds.drop n)
  | _, _, 0, r => r
  | _, _, _ + 1, .nil => .nil
  | _, _, n + 1, .cons _ t => RelAll.drop n t
theorem RelAll.set {v : V} {d : D} (q : Rel K A v d) : ∀ {vs : List V} {ds : List D} (n : Nat), RelAll K A vs ds → RelAll K A (vs.set n v) (ds.set n d)
  | _, _, _, .nil => .nil
  | _, _, 0, .cons r t => .cons q t
  | _, _, n + 1, .cons r t => .cons r (RelAll.set q n t)
theorem RelAll.dropLast : ∀ {vs : List V} {ds : List D}, RelAll K A vs ds → RelAll K A vs.dropLast ds.dropLast := fun {vs ds} r => by
  rw [List.dropLast_eq_take, List.dropLast_eq_take, r.length]
  exact r.take _
theorem RelAll.rep : ∀ {vs : List V} {ds : List D} (n : Nat), RelAll K A vs ds → RelAll K A (List.replicate n vs).flatten (List.replicate n ds).flatten
  | _, _, 0, _ => .nil
  | _, _, n + 1, r => by
    rw [List.replicate_succ, List.replicate_succ, List.flatten_cons, List.flatten_cons]
    exact r.append (RelAll.rep n r)
theorem RelAll.reverse : ∀ {vs : List V} {ds : List D}, RelAll K A vs ds → RelAll K A vs.reverse ds.reverse
  | _, _, .nil => .nil
  | _, _, .cons r t => by
    rw [List.reverse_cons, List.reverse_cons]
    exact (RelAll.reverse t).append (.cons r .nil)
theorem RelAll.ints : ∀ {vs : List V} {ds : List D} {is : List Int}, RelAll K A vs ds → intsOf ds = some is → vs = is.map V.int
  | _, _, is, .nil, e => by
    simp [intsOf] at e
    subst e
    rfl
  | _, _, is, .cons (d := d) (ds := ds) r t, e => by
    cases r with
    | int i =>
      simp only [intsOf, Option.map_eq_some_iff] at e
      obtain ⟨js, h1, rfl⟩ := e
      rw [RelAll.ints t h1]
      rfl
    | _ => simp [intsOf, IP.scr] at e
theorem RelAll.bools : ∀ {vs : List V} {ds : List D} {is : List Bool}, RelAll K A vs ds → boolsOf ds = some is → vs = is.map V.bl
  | _, _, is, .nil, e => by
    simp [boolsOf] at e
    subst e
    rfl
  | _, _, is, .cons (d := d) (ds := ds) r t, e => by
    cases r with
    | bl i =>
      simp only [boolsOf, Option.map_eq_some_iff] at e
      obtain ⟨js, h1, rfl⟩ := e
      rw [RelAll.bools t h1]
      rfl
    | _ => simp [boolsOf, IP.scr] at e
theorem relAll_ints {is : List Int} : RelAll K A (is.map V.int) (is.map PyData.int) := by
  induction is with
  | nil => exact .nil
  | cons i is ih => exact .cons (.int i) ih
/-- a value without lists does not read lists -/
theorem Rel.dp : ∀ {v : V} {d : D}, Rel K A v d → SeqAt.shaped d = true → Dp K A v d := by
  have main : (∀ (v : V) (d : D), Rel K A v d → PyData.canLay0 d = true → Dp K A v d) := by
    intro v d r
    refine Rel.rec (motive_1 := fun v d _ => PyData.canLay0 d = true → Dp K A v d) (motive_2 := fun vs ds _ => PyData.canLayAll0 ds = true → DpAll K A vs ds) ?_ ?_ ?_ ?_ ?_ ?_ ?_ ?_ ?_ r
    · intro _; exact .non
    · intro b _; exact .bl b
    · intro i _; exact .int i
    · intro x _; exact .str x
    · intro a xs ds e r ih c
      exact .lst (SqL.of e) (ih (by simpa [PyData.canLay0] using c))
    · intro a xs ds e r ih c
      exact .tup e (ih (by simpa [PyData.canLay0] using c))
    · intro a ns e c
      simp [IP.scr, PyData.canLay0] at c
    · intro _; exact .nil
    · intro v vs d ds r1 r2 h1 h2 c
      have c' : PyData.canLay0 d = true ∧ PyData.canLayAll0 ds = true := by simpa [PyData.canLayAll0] using c
      exact .cons (h1 c'.1) (h2 c'.2)
  intro v d r h
  exact main v d r (SeqAt.canLay_of_shaped h)
end

/-! ### the state: the frozen part H0 of the heap, the owned lists -/
/-- the entry of a def: the written part, the heap, its frozen part, the lists by reference (slot, address) -/
structure Gx where
  K : PySem.W.Frag
  H : Hp
  H0 : Hp
  pr : List (Nat × Addr)
def isOwn : Slot → Bool
  | .own _ => true
  | .prm _ => true
  | _ => false
def Holds (δ : Env) (σ : L2.St) (i : Nat) (p : Addr) : Prop := (∃ s, δ[i]? = some s ∧ isOwn s = true) ∧ σ[i]? = some (some (V.ref p))
def SlotOk (G : Gx) (H0 H : Hp) (σ : L2.St) (i : Nat) : Slot → Prop
  | .un => True
  | .dat d => ∃ v, σ[i]? = some (some v) ∧ Rel G.K H0 v d
  | .own ds => ∃ p vs, σ[i]? = some (some (.ref p)) ∧ H p = some (.lst vs) ∧ RelAll G.K H0 vs ds ∧ H0 p = none ∧ G.H p = none
  | .prm ds => ∃ p vs, σ[i]? = some (some (.ref p)) ∧ (i, p) ∈ G.pr ∧ H p = some (.lst vs) ∧ RelAll G.K H0 vs ds ∧ H0 p = none
structure Rl (G : Gx) (H0 H : Hp) (δ : Env) (σ : L2.St) : Prop where
  len : σ.length = δ.length
  sub : Sub H0 H
  up : Sub G.H0 H0
  keep : ∀ a o, G.H a = some o → (∀ p ∈ G.pr, p.2 ≠ a) → H a = some o
  fro : ∀ a o, H0 a = some o → (∃ u, G.H0 a = some u) ∨ G.H a = none
  slot : ∀ i s, δ[i]? = some s → SlotOk G H0 H σ i s
  inj : ∀ i j p, Holds δ σ i p → Holds δ σ j p → i = j
  prs : ∀ p ∈ G.pr, ∃ ds, δ[p.1]? = some (.prm ds) ∧ σ[p.1]? = some (some (.ref p.2))
def ResOk (G : Gx) (H0 H : Hp) (δ : Env) (σ : L2.St) : Res → V → Prop
  | .dat d, v => Rel G.K H0 v d
  | .new ds, v => ∃ p vs, v = .ref p ∧ H p = some (.lst vs) ∧ RelAll G.K H0 vs ds ∧ H0 p = none ∧ G.H p = none ∧ ∀ i, ¬ Holds δ σ i p
def OpdOk (G : Gx) (H0 : Hp) (σ : L2.St) : Opd → V → Prop
  | .val d, v => Rel G.K H0 v d
  | .at i, v => σ[i]? = some (some v)
/-- the object itself in H, what it holds in H0 -/
def RelT (K : PySem.W.Frag) (H0 H : Hp) (v : V) (d : D) : Prop := Rel K H0 v d ∨ ∃ a xs ds, d = .list ds ∧ v = .ref a ∧ H a = some (.lst xs) ∧ RelAll K H0 xs ds
section
variable {G : Gx} {H0 H H0' H' : Hp} {δ δ' : Env} {σ : L2.St} {p : Addr} {o : HO} {i j : Nat} {v : V} {d : D} {ds : List D} {vs : List V}
theorem Rl.fresh (R : Rl G H0 H δ σ) (hp : H p = none) : H0 p = none ∧ G.H p = none ∧ ∀ i, ¬ Holds δ σ i p := by
  refine ⟨R.sub.none hp, ?_, fun i h => ?_⟩
  · cases q : G.H p with
    | none => rfl
    | some o =>
      by_cases hh : ∃ z ∈ G.pr, z.2 = p
      · obtain ⟨z, hz, e⟩ := hh
        obtain ⟨ds, e1, e2⟩ := R.prs z hz
        obtain ⟨p', vs, e3, _, e4, _, _⟩ := R.slot _ _ e1
        rw [e2] at e3
        cases e3
        rw [e, hp] at e4
        cases e4
      · have := R.keep p o q (fun z hz e => hh ⟨z, hz, e⟩)
        rw [hp] at this
        cases this
  · obtain ⟨⟨s, e1, e2⟩, e3⟩ := h
    have := R.slot i s e1
    cases s with
    | own ds =>
      obtain ⟨p', vs, e4, e5, _⟩ := this
      rw [e3] at e4
      cases e4
      rw [hp] at e5
      cases e5
    | prm ds =>
      obtain ⟨p', vs, e4, _, e5, _⟩ := this
      rw [e3] at e4
      cases e4
      rw [hp] at e5
      cases e5
    | _ => cases e2
theorem SlotOk.mono {s : Slot} (h : SlotOk G H0 H σ i s) (h0 : Sub H0 H0') (hH : ∀ a vs, H a = some (.lst vs) → isOwn s = true → σ[i]? = some (some (.ref a)) → H' a = some (.lst vs)) (hn : ∀ a, isOwn s = true → σ[i]? = some (some (.ref a)) → H0 a = none → H0' a = none) : SlotOk G H0' H' σ i s := by
  cases s with
  | un => trivial
  | dat d =>
    obtain ⟨v, e, r⟩ := h
    exact ⟨v, e, r.sub h0⟩
  | own ds =>
    obtain ⟨p, vs, e1, e2, e3, e4, e5⟩ := h
    exact ⟨p, vs, e1, hH p vs e2 rfl e1, e3.sub h0, hn p rfl e1 e4, e5⟩
  | prm ds =>
    obtain ⟨p, vs, e1, e0, e2, e3, e4⟩ := h
    exact ⟨p, vs, e1, e0, hH p vs e2 rfl e1, e3.sub h0, hn p rfl e1 e4⟩
/-- a new object that nobody names yet -/
theorem Rl.laid (R : Rl G H0 H δ σ) (hp : H p = none) : Rl G H0 (upd H p o) δ σ := by
  refine ⟨R.len, R.sub.trans (Sub.new hp), R.up, fun a u e h => Sub.new hp a u (R.keep a u e h), R.fro, fun i s e => ?_, R.inj, R.prs⟩
  exact (R.slot i s e).mono (Sub.refl _) (fun a vs e _ _ => Sub.new hp a _ e) (fun _ _ _ h => h)
/-- an object is frozen -/
theorem Rl.froze (R : Rl G H0 H δ σ) (hp : H p = some o) (h0 : H0 p = none) (hG : G.H p = none) (hh : ∀ i, ¬ Holds δ σ i p) : Rl G (upd H0 p o) H δ σ := by
  refine ⟨R.len, fun a u e => ?_, R.up.trans (Sub.new h0), R.keep, fun a u e => ?_, fun i s e => ?_, R.inj, R.prs⟩
  · by_cases ha : a = p
    · subst ha
      rw [upd_same] at e
      cases e
      exact hp
    · rw [upd_ne ha] at e
      exact R.sub a u e
  · by_cases ha : a = p
    · subst ha
      exact .inr hG
    · rw [upd_ne ha] at e
      exact R.fro a u e
  · refine (R.slot i s e).mono (Sub.new h0) (fun a vs e _ _ => e) (fun a hs hi hn => ?_)
    by_cases ha : a = p
    · subst ha
      exact absurd ⟨⟨s, e, hs⟩, hi⟩ (hh i)
    · rw [upd_ne ha]
      exact hn
/-- a new object, at once frozen -/
theorem Rl.laid0 (R : Rl G H0 H δ σ) (hp : H p = none) : Rl G (upd H0 p o) (upd H p o) δ σ ∧ Sub H0 (upd H0 p o) :=
  have f := R.fresh hp
  ⟨(R.laid (o := o) hp).froze upd_same f.1 f.2.1 f.2.2, Sub.new f.1⟩
/-- a result becomes data -/
theorem Rl.toD (R : Rl G H0 H δ σ) : ∀ {r : Res} {v : V}, ResOk G H0 H δ σ r v → ∃ H0', Rl G H0' H δ σ ∧ Sub H0 H0' ∧ Rel G.K H0' v r.toD
  | .dat d, v, h => ⟨H0, R, Sub.refl _, h⟩
  | .new ds, v, h => by
    obtain ⟨p, vs, rfl, e1, e2, e3, e4, e5⟩ := h
    exact ⟨_, R.froze e1 e3 e4 e5, Sub.new e3, .lst upd_same (e2.sub (Sub.new e3))⟩
theorem Rl.slotAt (R : Rl G H0 H δ σ) {s : Slot} (e : δ[i]? = some s) : SlotOk G H0 H σ i s := R.slot i s e
/-- an owned list is changed -/
theorem Rl.put (R : Rl G H0 H δ σ) {s s' : Slot} (e : δ[i]? = some s) (hs : isOwn s = true) (hi : σ[i]? = some (some (.ref p)))
    (hv : RelAll G.K H0 vs ds) (h' : (s' = .own ds ∧ ∃ xs, s = .own xs) ∨ (s' = .prm ds ∧ ∃ xs, s = .prm xs)) : Rl G H0 (upd H p (.lst vs)) (δ.set i s') σ := by
  have hlt : i < δ.length := (List.getElem?_eq_some_iff.mp e).1
  have own' : isOwn s' = true := by rcases h' with ⟨h, _⟩ | ⟨h, _⟩ <;> rw [h] <;> rfl
  have n0 : H0 p = none := by
    have := R.slot i s e
    rcases h' with ⟨_, xs, rfl⟩ | ⟨_, xs, rfl⟩
    · obtain ⟨q, _, e1, _, _, e2, _⟩ := this
      rw [hi] at e1
      cases e1
      exact e2
    · obtain ⟨q, _, e1, _, _, _, e2⟩ := this
      rw [hi] at e1
      cases e1
      exact e2
  have hold : ∀ j q, Holds (δ.set i s') σ j q → Holds δ σ j q := fun j q ⟨⟨u, u1, u2⟩, u3⟩ => by
    by_cases hj : i = j
    · subst hj
      exact ⟨⟨s, e, hs⟩, u3⟩
    · rw [List.getElem?_set_ne hj] at u1
      exact ⟨⟨u, u1, u2⟩, u3⟩
  refine ⟨by rw [List.length_set]; exact R.len, fun a u h => ?_, R.up, fun a u h hh => ?_, R.fro, fun j u h => ?_, fun a b q h1 h2 => R.inj a b q (hold _ _ h1) (hold _ _ h2), fun z hz => ?_⟩
  · rw [upd_ne (ne_of_none h n0)]
    exact R.sub a u h
  · have ha : a ≠ p := fun z => by
      subst z
      have := R.slot i s e
      rcases h' with ⟨_, xs, rfl⟩ | ⟨_, xs, rfl⟩
      · obtain ⟨q, _, e1, _, _, _, e2⟩ := this
        rw [hi] at e1
        cases e1
        rw [h] at e2
        cases e2
      · obtain ⟨q, _, e1, e2, _⟩ := this
        rw [hi] at e1
        cases e1
        exact hh _ e2 rfl
    rw [upd_ne ha]
    exact R.keep a u h hh
  · by_cases hj : i = j
    · subst hj
      rw [List.getElem?_set_self hlt] at h
      cases h
      have := R.slot i s e
      rcases h' with ⟨rfl, xs, rfl⟩ | ⟨rfl, xs, rfl⟩
      · obtain ⟨q, _, e1, _, _, e2, e3⟩ := this
        rw [hi] at e1
        cases e1
        exact ⟨p, vs, hi, upd_same, hv, e2, e3⟩
      · obtain ⟨q, _, e1, e0, _, _, e2⟩ := this
        rw [hi] at e1
        cases e1
        exact ⟨p, vs, hi, e0, upd_same, hv, e2⟩
    · rw [List.getElem?_set_ne hj] at h
      have sj := R.slot j u h
      have ne : ∀ q, isOwn u = true → σ[j]? = some (some (.ref q)) → q ≠ p := fun q h1 h2 z => by
        subst z
        exact hj (R.inj i j q ⟨⟨s, e, hs⟩, hi⟩ ⟨⟨u, h, h1⟩, h2⟩)
      cases u with
      | un => trivial
      | dat d => exact sj
      | own xs =>
        obtain ⟨q, ws, e1, e2, e3, e4, e5⟩ := sj
        exact ⟨q, ws, e1, by rw [upd_ne (ne q rfl e1)]; exact e2, e3, e4, e5⟩
      | prm xs =>
        obtain ⟨q, ws, e1, e0, e2, e3, e4⟩ := sj
        exact ⟨q, ws, e1, e0, by rw [upd_ne (ne q rfl e1)]; exact e2, e3, e4⟩
  · obtain ⟨xs, e1, e2⟩ := R.prs z hz
    by_cases hj : i = z.1
    · subst hj
      rw [e1] at e
      cases e
      rcases h' with ⟨_, xs, h⟩ | ⟨rfl, _⟩
      · cases h
      · exact ⟨ds, List.getElem?_set_self hlt, e2⟩
    · exact ⟨xs, by rw [List.getElem?_set_ne hj]; exact e1, e2⟩
/-- an owned list is frozen -/
theorem Rl.freeze (R : Rl G H0 H δ σ) (i : Nat) : ∃ H0', Rl G H0' H (freeze δ i) σ ∧ Sub H0 H0' := by
  cases e : δ[i]? with
  | none =>
    refine ⟨H0, ?_, Sub.refl _⟩
    unfold IP.freeze
    rw [e]
    exact R
  | some s =>
    cases s with
    | own xs =>
      obtain ⟨p, ws, e1, e2, e3, e4, e5⟩ := R.slot i _ e
      have hlt : i < δ.length := (List.getElem?_eq_some_iff.mp e).1
      have ef : IP.freeze δ i = δ.set i (.dat (.list xs)) := by
        unfold IP.freeze
        rw [e]
      refine ⟨upd H0 p (.lst ws), ?_, Sub.new e4⟩
      rw [ef]
      have hold : ∀ j q, Holds (δ.set i (.dat (.list xs))) σ j q → Holds δ σ j q ∧ j ≠ i := fun j q ⟨⟨u, u1, u2⟩, u3⟩ => by
        by_cases hj : i = j
        · subst hj
          rw [List.getElem?_set_self hlt] at u1
          cases u1
          cases u2
        · rw [List.getElem?_set_ne hj] at u1
          exact ⟨⟨⟨u, u1, u2⟩, u3⟩, Ne.symm hj⟩
      refine ⟨by rw [List.length_set]; exact R.len, fun a u h => ?_, R.up.trans (Sub.new e4), R.keep, fun a u h => ?_, fun j u h => ?_, fun a b q h1 h2 => R.inj a b q (hold _ _ h1).1 (hold _ _ h2).1, fun z hz => ?_⟩
      · by_cases ha : a = p
        · subst ha
          rw [upd_same] at h
          cases h
          exact e2
        · rw [upd_ne ha] at h
          exact R.sub a u h
      · by_cases ha : a = p
        · subst ha
          exact .inr e5
        · rw [upd_ne ha] at h
          exact R.fro a u h
      · by_cases hj : i = j
        · subst hj
          rw [List.getElem?_set_self hlt] at h
          cases h
          exact ⟨_, e1, .lst upd_same (e3.sub (Sub.new e4))⟩
        · rw [List.getElem?_set_ne hj] at h
          refine (R.slot j u h).mono (Sub.new e4) (fun _ _ q _ _ => q) (fun a hs hi hn => ?_)
          have ha : a ≠ p := fun z => by
            subst z
            exact hj (R.inj i j a ⟨⟨_, e, rfl⟩, e1⟩ ⟨⟨u, h, hs⟩, hi⟩)
          rw [upd_ne ha]
          exact hn
      · obtain ⟨ys, e6, e7⟩ := R.prs z hz
        have hj : i ≠ z.1 := fun h => by
          rw [← h, e] at e6
          cases e6
        exact ⟨ys, by rw [List.getElem?_set_ne hj]; exact e6, e7⟩
    | _ =>
      refine ⟨H0, ?_, Sub.refl _⟩
      unfold IP.freeze
      rw [e]
      exact R
/-- a name is set -/
theorem Rl.set {r : Slot} (R : Rl G H0 H δ σ) (h : setSlot δ i r = some δ') (hr : SlotOk G H0 H (σ.set i (some v)) i r) (hnp : ∀ ds, r ≠ .prm ds) (hno : isOwn r = true → ∀ p, v = .ref p → ∀ j, ¬ Holds δ σ j p) : Rl G H0 H δ' (σ.set i (some v)) := by
  unfold setSlot at h
  cases e : δ[i]? with
  | none =>
    rw [e] at h
    cases h
  | some s =>
    rw [e] at h
    have hlt : i < δ.length := (List.getElem?_eq_some_iff.mp e).1
    have hlt' : i < σ.length := by rw [R.len]; exact hlt
    have nprm : ∀ ds, s ≠ .prm ds := fun ds z => by
      subst z
      cases h
    have hd : δ' = δ.set i r := by
      cases s with
      | prm ds => exact absurd rfl (nprm ds)
      | _ => cases h; rfl
    subst hd
    have sig : ∀ j, i ≠ j → (σ.set i (some v))[j]? = σ[j]? := fun j hj => List.getElem?_set_ne hj
    have del : ∀ j, i ≠ j → (δ.set i r)[j]? = δ[j]? := fun j hj => List.getElem?_set_ne hj
    refine ⟨by rw [List.length_set, List.length_set]; exact R.len, R.sub, R.up, R.keep, R.fro, fun j u h => ?_, fun a b q h1 h2 => ?_, fun z hz => ?_⟩
    · by_cases hj : i = j
      · subst hj
        rw [List.getElem?_set_self hlt] at h
        cases h
        exact hr
      · rw [del j hj] at h
        have sj := R.slot j u h
        cases u with
        | un => trivial
        | dat d =>
          obtain ⟨w, e1, e2⟩ := sj
          exact ⟨w, by rw [sig j hj]; exact e1, e2⟩
        | own xs =>
          obtain ⟨q, ws, e1, e2⟩ := sj
          exact ⟨q, ws, by rw [sig j hj]; exact e1, e2⟩
        | prm xs =>
          obtain ⟨q, ws, e1, e2⟩ := sj
          exact ⟨q, ws, by rw [sig j hj]; exact e1, e2⟩
    · have get : ∀ j, Holds (δ.set i r) (σ.set i (some v)) j q → (j ≠ i ∧ Holds δ σ j q) ∨ (j = i ∧ isOwn r = true ∧ v = .ref q) := fun j ⟨⟨u, u1, u2⟩, u3⟩ => by
        by_cases hj : i = j
        · subst hj
          rw [List.getElem?_set_self hlt] at u1
          rw [List.getElem?_set_self hlt'] at u3
          cases u1
          cases u3
          exact .inr ⟨rfl, u2, rfl⟩
        · rw [del j hj] at u1
          rw [sig j hj] at u3
          exact .inl ⟨Ne.symm hj, ⟨⟨u, u1, u2⟩, u3⟩⟩
      rcases get a h1 with ⟨a1, a2⟩ | ⟨a1, a2, a3⟩
      · rcases get b h2 with ⟨b1, b2⟩ | ⟨b1, b2, b3⟩
        · exact R.inj a b q a2 b2
        · exact absurd a2 (hno b2 q b3 a)
      · rcases get b h2 with ⟨b1, b2⟩ | ⟨b1, b2, b3⟩
        · exact absurd b2 (hno a2 q a3 b)
        · rw [a1, b1]
    · obtain ⟨xs, e1, e2⟩ := R.prs z hz
      have hj : i ≠ z.1 := fun h => by
        rw [← h, e] at e1
        cases e1
        exact nprm xs rfl
      exact ⟨xs, by rw [del _ hj]; exact e1, by rw [sig _ hj]; exact e2⟩
theorem OpdOk.sub {o : Opd} (h : OpdOk G H0 σ o v) (s : Sub H0 H0') : OpdOk G H0' σ o v := by
  cases o with
  | val d => exact Rel.sub s h
  | «at» i => exact h
theorem Rl.rd (R : Rl G H0 H δ σ) {o : Opd} (h : OpdOk G H0 σ o v) (e : rd δ o = some d) : RelT G.K H0 H v d := by
  cases o with
  | val d' =>
    simp only [IP.rd, Option.some.injEq] at e
    subst e
    exact .inl h
  | «at» i =>
    simp only [IP.rd, Option.bind_eq_some_iff] at e
    obtain ⟨s, e1, e2⟩ := e
    have sj := R.slot i s e1
    have h' : σ[i]? = some (some v) := h
    cases s with
    | un => cases e2
    | dat d' =>
      simp only [slotD, Option.some.injEq] at e2
      subst e2
      obtain ⟨w, e3, e4⟩ := sj
      rw [h'] at e3
      cases e3
      exact .inl e4
    | own ds =>
      simp only [slotD, Option.some.injEq] at e2
      subst e2
      obtain ⟨q, ws, e3, e4, e5, _⟩ := sj
      rw [h'] at e3
      cases e3
      exact .inr ⟨q, ws, ds, rfl, rfl, e4, e5⟩
    | prm ds =>
      simp only [slotD, Option.some.injEq] at e2
      subst e2
      obtain ⟨q, ws, e3, _, e4, e5, _⟩ := sj
      rw [h'] at e3
      cases e3
      exact .inr ⟨q, ws, ds, rfl, rfl, e4, e5⟩
end
end IP
end
section
set_option Elab.async false
set_option linter.all false
set_option maxRecDepth 100000
set_option maxHeartbeats 2000000
namespace IP
open PySem L2
/-! ### the judgements -/
def kE (K : PySem.W.Frag) (f : Ev) : TE := fun σ H Q => ∃ G H0 δ r δ', G.K = K ∧ Rl G H0 H δ σ ∧ f δ = some (r, δ') ∧ ∀ v H0' H', Rl G H0' H' δ' σ → Sub H0 H0' → ResOk G H0' H' δ' σ r v → Q v H'
def kO (K : PySem.W.Frag) (f : Eo) : TE := fun σ H Q => ∃ G H0 δ o δ', G.K = K ∧ Rl G H0 H δ σ ∧ f δ = some (o, δ') ∧ ∀ v H0' H', Rl G H0' H' δ' σ → Sub H0 H0' → OpdOk G H0' σ o v → Q v H'
def kT (K : PySem.W.Frag) (f : Et) : TT := fun σ H Q => ∃ G H0 δ b δ', G.K = K ∧ Rl G H0 H δ σ ∧ f δ = some (b, δ') ∧ ∀ H0' H', Rl G H0' H' δ' σ → Sub H0 H0' → Q b H'
inductive OpdAll (G : Gx) (H0 : Hp) (σ : L2.St) : List Opd → List V → Prop
  | nil : OpdAll G H0 σ [] []
  | cons {o : Opd} {os : List Opd} {v : V} {vs : List V} : OpdOk G H0 σ o v → OpdAll G H0 σ os vs → OpdAll G H0 σ (o :: os) (v :: vs)
def kA (K : PySem.W.Frag) (f : Ea) : TA := fun σ H Q => ∃ G H0 δ os δ', G.K = K ∧ Rl G H0 H δ σ ∧ f δ = some (os, δ') ∧ ∀ vs H0' H', Rl G H0' H' δ' σ → Sub H0 H0' → OpdAll G H0' σ os vs → Q vs H'
def kP (K : PySem.W.Frag) (f : Env → Option (Option Int × Env)) : TO := fun σ H Q => ∃ G H0 δ o δ', G.K = K ∧ Rl G H0 H δ σ ∧ f δ = some (o, δ') ∧ ∀ H0' H', Rl G H0' H' δ' σ → Sub H0 H0' → Q o H'
def kS (K : PySem.W.Frag) (f : Es) : TS := fun D σ H => ∃ G H0 δ o δ', G.K = K ∧ Rl G H0 H δ σ ∧ f δ = some (o, δ') ∧ ∀ σ' H0' H', Rl G H0' H' δ' σ' → Sub H0 H0' → match o with
  | .nx => D.nx σ' H'
  | .bk => D.bk σ' H'
  | .ct => D.ct σ' H'
  | .rt r => ∀ v, ResOk G H0' H' δ' σ' r v → D.rt v H'
abbrev XV (X : Cx) (e : Expr) (f : Ev) : Prop := PE X e (kE X.K f)
abbrev XO (X : Cx) (e : Expr) (f : Eo) : Prop := PE X e (kO X.K f)
abbrev XT (X : Cx) (e : Expr) (f : Et) : Prop := PT X e (kT X.K f)
abbrev XA (X : Cx) (es : List Expr) (f : Ea) : Prop := PA X es (kA X.K f)
abbrev XP (X : Cx) (o : Option Expr) (f : Env → Option (Option Int × Env)) : Prop := L2.PO X o (kP X.K f)
abbrev XS (X : Cx) (st : Stmt) (f : Es) : Prop := PS X st (kS X.K f)
abbrev XB (X : Cx) (st : List Stmt) (f : Es) : Prop := PSs X st (kS X.K f)

section
variable {X : Cx} {K : PySem.W.Frag}
theorem _root_.L2.PE.weak {e : Expr} {t t' : TE} (h : PE X e t) (w : ∀ σ H Q, t' σ H Q → t σ H Q) : PE X e t' := ⟨fun pins s σ H Q I q => h.run pins s σ H Q I (w σ H Q q)⟩
theorem _root_.L2.PT.weak {e : Expr} {t t' : TT} (h : PT X e t) (w : ∀ σ H Q, t' σ H Q → t σ H Q) : PT X e t' := ⟨fun pins s σ H Q I q => h.run pins s σ H Q I (w σ H Q q)⟩
theorem _root_.L2.PA.weak {e : List Expr} {t t' : TA} (h : PA X e t) (w : ∀ σ H Q, t' σ H Q → t σ H Q) : PA X e t' := ⟨fun pos pins s σ H Q I q => h.run pos pins s σ H Q I (w σ H Q q)⟩
theorem _root_.L2.PS.weak {e : Stmt} {t t' : TS} (h : PS X e t) (w : ∀ D σ H, t' D σ H → t D σ H) : PS X e t' := ⟨fun pins s σ H D I q => h.run pins s σ H D I (w D σ H q)⟩
theorem _root_.L2.PSs.weak {e : List Stmt} {t t' : TS} (h : PSs X e t) (w : ∀ D σ H, t' D σ H → t D σ H) : PSs X e t' := ⟨fun pins s σ H D I q => h.run pins s σ H D I (w D σ H q)⟩
theorem _root_.L2.PO.weak {e : Option Expr} {t t' : TO} (h : L2.PO X e t) (w : ∀ σ H Q, t' σ H Q → t σ H Q) : L2.PO X e t' := ⟨fun pins s σ H Q I q => h.run pins s σ H Q I (w σ H Q q)⟩
theorem OpdAll.sub {G : Gx} {A B : Hp} {σ : L2.St} {os : List Opd} {vs : List V} (h : OpdAll G A σ os vs) (s : Sub A B) : OpdAll G B σ os vs := by
  induction h with
  | nil => exact .nil
  | cons q _ ih => exact .cons (q.sub s) ih

/-! ### names, constants -/
theorem x_int {i j pos} : XV X (.Constant (.int i) j pos) (vC (.int i)) := pe_int.weak fun σ H Q ⟨G, H0, δ, r, δ', _, R, e, q⟩ => by
  cases e
  exact q _ _ _ R (Sub.refl _) (.int i)
theorem x_bl {i j pos} : XV X (.Constant (.bool i) j pos) (vC (.bool i)) := pe_bl.weak fun σ H Q ⟨G, H0, δ, r, δ', _, R, e, q⟩ => by
  cases e
  exact q _ _ _ R (Sub.refl _) (.bl i)
theorem x_non {j pos} : XV X (.Constant .none j pos) (vC .none) := pe_non.weak fun σ H Q ⟨G, H0, δ, r, δ', _, R, e, q⟩ => by
  cases e
  exact q _ _ _ R (Sub.refl _) .non
theorem x_str {i j pos} : XV X (.Constant (.str i) j pos) (vC (.str i)) := pe_str.weak fun σ H Q ⟨G, H0, δ, r, δ', _, R, e, q⟩ => by
  cases e
  exact q _ _ _ R (Sub.refl _) (.str i)
/-- a constant of the module -/
theorem x_glob {x : Str} {v : V} {u : Value} {d : D} {pos : Pos} (hg : Gl X x) (hm : X.mg x = some u) (r : RelV v u) (hd : ∀ H, Rel X.K H v d) (hdb : (x == ("__debug__" : Str)) = false := by decide) : XV X (.Name x pos) (vC d) := (pe_glob hg hm r hdb).weak fun σ H Q ⟨G, H0, δ, r, δ', eK, R, e, q⟩ => by
  cases e
  exact q _ _ _ R (Sub.refl _) (by show Rel G.K H0 v d; rw [eK]; exact hd H0)
theorem x_var {i : Nat} {x : Str} {pos : Pos} (hN : X.N[i]? = some x) (hv : Vis X.env.scope x) (hd : (x == ("__debug__" : Str)) = false := by decide) (hcd : (x == ("__classdict__" : Str)) = false := by decide) : XV X (.Name x pos) (vVar i) :=
  (pe_var hN hv hd hcd).weak fun σ H Q ⟨G, H0, δ, r, δ', _, R, e, q⟩ => by
    unfold vVar at e
    cases es : δ[i]? with
    | none =>
      rw [es] at e
      cases e
    | some s =>
      rw [es] at e
      have sj := R.slot i s es
      cases s with
      | dat d =>
        cases e
        obtain ⟨v, h1, h2⟩ := sj
        exact ⟨v, h1, q v _ _ R (Sub.refl _) h2⟩
      | own ds =>
        cases e
        obtain ⟨p, vs, h1, h2, h3, h4, h5⟩ := sj
        obtain ⟨H0', R', s'⟩ := R.freeze i
        refine ⟨.ref p, h1, q _ _ _ R' s' ?_⟩
        have hlt : i < δ.length := (List.getElem?_eq_some_iff.mp es).1
        have e2 : (IP.freeze δ i)[i]? = some (.dat (.list ds)) := by
          unfold IP.freeze
          rw [es]
          exact List.getElem?_set_self hlt
        obtain ⟨w, e3, e4⟩ := R'.slot i _ e2
        rw [h1] at e3
        cases e3
        exact e4
      | _ => cases e
theorem o_var {i : Nat} {x : Str} {pos : Pos} (hN : X.N[i]? = some x) (hv : Vis X.env.scope x) (hd : (x == ("__debug__" : Str)) = false := by decide) (hcd : (x == ("__classdict__" : Str)) = false := by decide) : XO X (.Name x pos) (oVar i) :=
  (pe_var hN hv hd hcd).weak fun σ H Q ⟨G, H0, δ, r, δ', _, R, e, q⟩ => by
    unfold oVar at e
    cases es : δ[i]? with
    | none =>
      rw [es] at e
      cases e
    | some s =>
      rw [es] at e
      have sj := R.slot i s es
      cases s with
      | dat d =>
        cases e
        obtain ⟨v, h1, h2⟩ := sj
        exact ⟨v, h1, q v _ _ R (Sub.refl _) h2⟩
      | own ds =>
        cases e
        obtain ⟨p, vs, h1, _⟩ := sj
        exact ⟨.ref p, h1, q _ _ _ R (Sub.refl _) h1⟩
      | prm ds =>
        cases e
        obtain ⟨p, vs, h1, _⟩ := sj
        exact ⟨.ref p, h1, q _ _ _ R (Sub.refl _) h1⟩
      | un => cases e
theorem o_v {e : Expr} {f : Ev} (h : XV X e f) : XO X e (oV f) := h.weak fun σ H Q ⟨G, H0, δ, o, δ', eK, R, e, q⟩ => by
  unfold oV at e
  simp only [Option.map_eq_some_iff] at e
  obtain ⟨⟨r, δ1⟩, e1, e2⟩ := e
  cases e2
  refine ⟨G, H0, δ, r, δ1, eK, R, e1, fun v H0' H' R' s ok => ?_⟩
  obtain ⟨H1, R1, s1, k1⟩ := R'.toD ok
  exact q v H1 H' R1 (s.trans s1) k1

/-! ### operators -/
/-- what is asked of an operation on two values -/
def OpS (K : PySem.W.Frag) (r : R2) (op : D → D → Option Res) : Prop :=
  ∀ (G : Gx) (H0 H : Hp) (δ : Env) (σ : L2.St) (x y : V) (dx dy : D) (res : Res), G.K = K → Rl G H0 H δ σ → RelT G.K H0 H x dx → RelT G.K H0 H y dy → op dx dy = some res →
    ∀ Q : VK, (∀ v H0' H', Rl G H0' H' δ σ → Sub H0 H0' → ResOk G H0' H' δ σ res v → Q v H') → r x y H Q
def UnS (K : PySem.W.Frag) (r : V → Hp → VK → Prop) (op : D → Option Res) : Prop :=
  ∀ (G : Gx) (H0 H : Hp) (δ : Env) (σ : L2.St) (x : V) (dx : D) (res : Res), G.K = K → Rl G H0 H δ σ → RelT G.K H0 H x dx → op dx = some res →
    ∀ Q : VK, (∀ v H0' H', Rl G H0' H' δ σ → Sub H0 H0' → ResOk G H0' H' δ σ res v → Q v H') → r x H Q
/-- the reading of two operands and an operation -/
theorem bin_read {r : R2} {op : D → D → Option Res} {f g : Eo} (hs : OpS K r op) {σ : L2.St} {H : Hp} {Q : VK} (h : kE K (fBin op f g) σ H Q) : tOp r (kO K f) (kO K g) σ H Q := by
  obtain ⟨G, H0, δ, res, δ', eK, R, e, q⟩ := h
  simp only [fBin, Option.bind_eq_some_iff, Option.map_eq_some_iff] at e
  obtain ⟨⟨o1, δ1⟩, e1, ⟨o2, δ2⟩, e2, dx, e3, dy, e4, r', e5, e6⟩ := e
  cases e6
  refine ⟨G, H0, δ, o1, δ1, eK, R, e1, fun v H0' H' R1 s1 k1 => ?_⟩
  refine ⟨G, H0', δ1, o2, δ2, eK, R1, e2, fun w H0'' H'' R2 s2 k2 => ?_⟩
  exact hs G H0'' H'' δ2 σ v w dx dy res eK R2 (R2.rd (k1.sub s2) e3) (R2.rd k2 e4) e5 Q fun z A B R3 s3 k3 => q z A B R3 ((s1.trans s2).trans s3) k3
theorem un_read {r : V → Hp → VK → Prop} {op : D → Option Res} {f : Eo} (hs : UnS K r op) {σ : L2.St} {H : Hp} {Q : VK} (h : kE K (fUn op f) σ H Q) : tUn r (kO K f) σ H Q := by
  obtain ⟨G, H0, δ, res, δ', eK, R, e, q⟩ := h
  simp only [fUn, Option.bind_eq_some_iff, Option.map_eq_some_iff] at e
  obtain ⟨⟨o1, δ1⟩, e1, dx, e3, r', e5, e6⟩ := e
  cases e6
  refine ⟨G, H0, δ, o1, δ1, eK, R, e1, fun v H0' H' R1 s1 k1 => ?_⟩
  exact hs G H0' H' δ1 σ v dx res eK R1 (R1.rd k1 e3) e5 Q fun z A B R3 s3 k3 => q z A B R3 (s1.trans s3) k3
variable {a b c : Expr} {f g h : Eo} {pos : Pos}
theorem x_bin {o : Operator} {r : R2} {op : D → D → Option Res} (ho : OpR X (binaryOp o) r) (hs : OpS X.K r op) (ha : XO X a f) (hb : XO X b g) : XV X (.BinOp a o b pos) (fBin op f g) :=
  (pe_op ho ha hb).weak fun _ _ _ h => bin_read hs h
theorem x_cmp {o : CmpOp} {r : R2} {op : D → D → Option Res} (ho : OpR X (compareOp o) r) (hs : OpS X.K r op) (ha : XO X a f) (hb : XO X b g) (hm : behindInMarks o b = false) : XV X (.Compare a [o] [b] pos) (fBin op f g) :=
  (pe_cmpR ho ha hb hm).weak fun _ _ _ h => bin_read hs h
theorem x_ix {r : R2} {op : D → D → Option Res} (hr : IxR X r) (hs : OpS X.K r op) (ha : XO X a f) (hb : XO X b g) (hp : PlainIx b) : XV X (.Subscript a b pos) (fBin op f g) :=
  (pe_ix hr ha hb hp).weak fun _ _ _ h => bin_read hs h
theorem x_un {o : UnaryOp} {r : V → Hp → VK → Prop} {op : D → Option Res} (ho : UnR X (unaryOp o) r) (hs : UnS X.K r op) (ha : XO X a f) : XV X (.UnaryOp o a pos) (fUn op f) :=
  (pe_un ho ha).weak fun _ _ _ h => un_read hs h
/-- a comparison as a test -/
theorem x_cmpT {o : CmpOp} {r : R2} {op : D → D → Option Res} (ho : OpR X (compareOp o) r) (hs : OpS X.K r op) (ha : XO X a f) (hb : XO X b g) (hm : behindInMarks o b = false) : XT X (.Compare a [o] [b] pos) (tB (fBin op f g)) :=
  (pt_cmpR ho ha hb hm).weak fun σ H Q ⟨G, H0, δ, res, δ', eK, R, e, q⟩ => by
    simp only [tB, Option.bind_eq_some_iff] at e
    obtain ⟨⟨r1, δ1⟩, e1, e2⟩ := e
    cases r1 with
    | new ds => cases e2
    | dat d =>
      cases d with
      | bool k =>
        cases e2
        refine bin_read hs ⟨G, H0, δ, _, _, eK, R, e1, fun v H0' H' R' s k1 => ?_⟩
        cases k1
        exact ⟨_, rfl, q _ _ R' s⟩
      | _ => cases e2
theorem x_chain {o1 o2 : CmpOp} {r1 r2 : R2} {p1 p2 : D → D → Option Res} (h1 : OpR X (compareOp o1) r1) (h2 : OpR X (compareOp o2) r2) (s1 : OpS X.K r1 p1) (s2 : OpS X.K r2 p2) (ha : XO X a f) (hb : XO X b g) (hc : XO X c h)
    (hm : lastMarks [o1, o2] [b, c] = false := by with_unfolding_all rfl) : XV X (.Compare a [o1, o2] [b, c] pos) (vChain p1 p2 f g h) :=
  (pe_chain h1 h2 ha hb hc hm).weak fun σ H Q ⟨G, H0, δ, res, δ', eK, R, e, q⟩ => by
    simp only [vChain, Option.bind_eq_some_iff] at e
    obtain ⟨⟨o1, δ1⟩, e1, ⟨o2, δ2⟩, e2, dx, e3, dy, e4, r', e5, e6⟩ := e
    refine ⟨G, H0, δ, o1, δ1, eK, R, e1, fun v H0' H' R1 s1' k1 => ?_⟩
    refine ⟨G, H0', δ1, o2, δ2, eK, R1, e2, fun w H0'' H'' R2 s2' k2 => ?_⟩
    refine s1 G H0'' H'' δ2 σ v w dx dy r' eK R2 (R2.rd (k1.sub s2') e3) (R2.rd k2 e4) e5 _ fun z A B R3 s3 k3 => ?_
    cases r' with
    | new _ => cases e6
    | dat d =>
      cases d with
      | bool t =>
        cases k3
        cases t with
        | false =>
          cases e6
          exact ⟨false, rfl, iteF (q _ A B R3 ((s1'.trans s2').trans s3) (.bl false))⟩
        | true =>
          simp only [Option.bind_eq_some_iff, Option.map_eq_some_iff] at e6
          obtain ⟨⟨o3, δ3⟩, e7, dy', e8, dz, e9, r'', e10, e11⟩ := e6
          cases e11
          refine ⟨true, rfl, iteT ?_⟩
          refine ⟨G, A, δ2, o3, δ3, eK, R3, e7, fun u A' B' R4 s4 k4 => ?_⟩
          exact s2 G A' B' δ3 σ w u dy' dz _ eK R4 (R4.rd ((k2.sub s3).sub s4) e8) (R4.rd k4 e9) e10 Q fun z C C' R5 s5 k5 => q z C C' R5 ((((s1'.trans s2').trans s3).trans s4).trans s5) k5
      | _ => cases e6

/-! ### tests -/
theorem truth_ok {G : Gx} {H0 H : Hp} {v : V} {d : D} {t : Bool} (h : RelT G.K H0 H v d) (s : Sub H0 H) (e : truth d = some t) : TruV G.K v H t := by
  rcases h with h | ⟨p, xs, ds, rfl, rfl, h1, h2⟩
  · cases h with
    | non =>
      cases e
      rfl
    | bl b =>
      cases e
      rfl
    | int i =>
      cases e
      rfl
    | str x => cases e
    | lst h1 h2 =>
      rename_i p xs ds
      simp only [truth, Option.some.injEq] at e
      subst e
      refine .inl ⟨xs, SqL.of (s _ _ h1), ?_⟩
      cases h2 <;> rfl
    | tup h1 h2 =>
      rename_i p xs ds
      simp only [truth, Option.some.injEq] at e
      subst e
      refine .inr (.inl ⟨xs, SqT.sub s h1, ?_⟩)
      cases h2 <;> rfl
    | scr _ => cases e
  · simp only [truth, Option.some.injEq] at e
    subst e
    refine .inl ⟨xs, SqL.of h1, ?_⟩
    cases h2 <;> rfl
theorem x_truth (ha : XO X a f) (he : ∀ whole, isTrue a X.env whole = (do let v ← whole; standAt a.pos; holding [v] (truthy v))) : XT X a (tV f) :=
  (pt_truth ha he).weak fun σ H Q ⟨G, H0, δ, res, δ', eK, R, e, q⟩ => by
    simp only [tV, Option.bind_eq_some_iff, Option.map_eq_some_iff] at e
    obtain ⟨⟨o1, δ1⟩, e1, d, e2, t, e3, e4⟩ := e
    cases e4
    refine ⟨G, H0, δ, o1, δ1, eK, R, e1, fun v H0' H' R1 s1 k1 => ?_⟩
    refine ⟨_, ?_, q H0' H' R1 s1⟩
    have := truth_ok (G := G) (R1.rd k1 e2) R1.sub e3
    rw [eK] at this
    exact this
theorem x_and {A B : Et} {rest : List Expr} (ha : XT X a A) (hb : PW X (.BoolOp .And (b :: rest) pos) (kT X.K B)) : PW X (.BoolOp .And (a :: b :: rest) pos) (kT X.K (tAnd A B)) := by
  refine ⟨fun wh pins s σ H Q I h => (pw_and ha hb).run wh pins s σ H Q I ?_⟩
  obtain ⟨G, H0, δ, res, δ', eK, R, e, q⟩ := h
  simp only [tAnd, Option.bind_eq_some_iff] at e
  obtain ⟨⟨t, δ1⟩, e1, e2⟩ := e
  refine ⟨G, H0, δ, t, δ1, eK, R, e1, fun H0' H' R1 s1 => ?_⟩
  cases t with
  | true => exact iteT ⟨G, H0', δ1, res, δ', eK, R1, e2, fun A' B' R2 s2 => q _ _ R2 (s1.trans s2)⟩
  | false =>
    cases e2
    exact iteF (q _ _ R1 s1)
theorem x_or {A B : Et} {rest : List Expr} (ha : XT X a A) (hb : PW X (.BoolOp .Or (b :: rest) pos) (kT X.K B)) : PW X (.BoolOp .Or (a :: b :: rest) pos) (kT X.K (tOr A B)) := by
  refine ⟨fun wh pins s σ H Q I h => (pw_or ha hb).run wh pins s σ H Q I ?_⟩
  obtain ⟨G, H0, δ, res, δ', eK, R, e, q⟩ := h
  simp only [tOr, Option.bind_eq_some_iff] at e
  obtain ⟨⟨t, δ1⟩, e1, e2⟩ := e
  refine ⟨G, H0, δ, t, δ1, eK, R, e1, fun H0' H' R1 s1 => ?_⟩
  cases t with
  | false => exact iteF ⟨G, H0', δ1, res, δ', eK, R1, e2, fun A' B' R2 s2 => q _ _ R2 (s1.trans s2)⟩
  | true =>
    cases e2
    exact iteT (q _ _ R1 s1)
theorem x_not {A : Et} (ha : XT X a A) : XT X (.UnaryOp .Not a pos) (tNot A) := (pt_not ha).weak fun σ H Q ⟨G, H0, δ, res, δ', eK, R, e, q⟩ => by
  simp only [tNot, Option.map_eq_some_iff] at e
  obtain ⟨⟨t, δ1⟩, e1, e2⟩ := e
  cases e2
  exact ⟨G, H0, δ, t, δ1, eK, R, e1, fun H0' H' R1 s1 => q _ _ R1 s1⟩
/-- .. as values of bools -/
theorem x_andV {A B : Ev} {rest : List Expr} (ha : XV X a A) (hb : XV X (.BoolOp .And (b :: rest) pos) B) : XV X (.BoolOp .And (a :: b :: rest) pos) (vAnd A B) := (pe_and ha hb).weak fun σ H Q ⟨G, H0, δ, res, δ', eK, R, e, q⟩ => by
  simp only [vAnd, Option.bind_eq_some_iff] at e
  obtain ⟨⟨t, δ1⟩, e1, e2⟩ := e
  refine ⟨G, H0, δ, t, δ1, eK, R, e1, fun v H0' H' R1 s1 k1 => ?_⟩
  cases t with
  | new _ => cases e2
  | dat d =>
    cases d with
    | bool t =>
      cases k1
      cases t with
      | true => exact ⟨true, rfl, iteT ⟨G, H0', δ1, res, δ', eK, R1, e2, fun v A' B' R2 s2 k2 => q _ _ _ R2 (s1.trans s2) k2⟩⟩
      | false =>
        cases e2
        exact ⟨false, rfl, iteF (q _ _ _ R1 s1 (.bl false))⟩
    | _ => cases e2
theorem x_orV {A B : Ev} {rest : List Expr} (ha : XV X a A) (hb : XV X (.BoolOp .Or (b :: rest) pos) B) : XV X (.BoolOp .Or (a :: b :: rest) pos) (vOr A B) := (pe_or ha hb).weak fun σ H Q ⟨G, H0, δ, res, δ', eK, R, e, q⟩ => by
  simp only [vOr, Option.bind_eq_some_iff] at e
  obtain ⟨⟨t, δ1⟩, e1, e2⟩ := e
  refine ⟨G, H0, δ, t, δ1, eK, R, e1, fun v H0' H' R1 s1 k1 => ?_⟩
  cases t with
  | new _ => cases e2
  | dat d =>
    cases d with
    | bool t =>
      cases k1
      cases t with
      | false => exact ⟨false, rfl, iteF ⟨G, H0', δ1, res, δ', eK, R1, e2, fun v A' B' R2 s2 k2 => q _ _ _ R2 (s1.trans s2) k2⟩⟩
      | true =>
        cases e2
        exact ⟨true, rfl, iteT (q _ _ _ R1 s1 (.bl true))⟩
    | _ => cases e2
theorem x_ite {T : Et} {A B : Ev} (ht : XT X c T) (ha : XV X a A) (hb : XV X b B) : XV X (.IfExp c a b pos) (vIte T A B) := (pe_ifExp ht ha hb).weak fun σ H Q ⟨G, H0, δ, res, δ', eK, R, e, q⟩ => by
  simp only [vIte, Option.bind_eq_some_iff] at e
  obtain ⟨⟨t, δ1⟩, e1, e2⟩ := e
  refine ⟨G, H0, δ, t, δ1, eK, R, e1, fun H0' H' R1 s1 => ?_⟩
  cases t with
  | true => exact iteT ⟨G, H0', δ1, res, δ', eK, R1, e2, fun v A' B' R2 s2 k2 => q _ _ _ R2 (s1.trans s2) k2⟩
  | false => exact iteF ⟨G, H0', δ1, res, δ', eK, R1, e2, fun v A' B' R2 s2 k2 => q _ _ _ R2 (s1.trans s2) k2⟩

/-! ### displays -/
theorem xa_nil : XA X [] aNil := pa_nil.weak fun σ H Q ⟨G, H0, δ, res, δ', eK, R, e, q⟩ => by
  cases e
  exact q [] _ _ R (Sub.refl _) .nil
theorem xa_cons {es : List Expr} {A : Ea} (ha : XO X a f) (hb : XA X es A) (hs : starEach (a :: es) X.env = (false, eval a X.env) :: starEach es X.env := by rfl) : XA X (a :: es) (aCons f A) := (pa_cons ha hb hs).weak fun σ H Q ⟨G, H0, δ, res, δ', eK, R, e, q⟩ => by
  simp only [aCons, Option.bind_eq_some_iff, Option.map_eq_some_iff] at e
  obtain ⟨⟨o1, δ1⟩, e1, ⟨os, δ2⟩, e2, e3⟩ := e
  cases e3
  refine ⟨G, H0, δ, o1, δ1, eK, R, e1, fun v H0' H' R1 s1 k1 => ?_⟩
  exact ⟨G, H0', δ1, os, δ2, eK, R1, e2, fun vs A' B' R2 s2 k2 => q _ _ _ R2 (s1.trans s2) (.cons (k1.sub s2) k2)⟩
theorem OpdAll.vals {G : Gx} {H0 : Hp} {σ : L2.St} : ∀ {os : List Opd} {vs : List V} {ds : List D}, OpdAll G H0 σ os vs → vals os = some ds → RelAll G.K H0 vs ds
  | _, _, _, .nil, e => by
    cases e
    exact .nil
  | _, _, _, .cons (o := o) h t, e => by
    cases o with
    | val d =>
      simp only [IP.vals, Option.map_eq_some_iff] at e
      obtain ⟨es, e1, rfl⟩ := e
      exact .cons h (OpdAll.vals t e1)
    | «at» i => cases e
theorem line_le {n : Nat} (h : n ≤ line) : n ≤ sizeLine := Nat.le_trans h (by rw [sizeLine_eq]; decide)
theorem x_tup {es : List Expr} {j : Nat} {A : Ea} (ha : XA X es A) : XV X (.Tuple es j pos) (vTup A) := (pe_tup ha).weak fun σ H Q ⟨G, H0, δ, res, δ', eK, R, e, q⟩ => by
  simp only [vTup, Option.bind_eq_some_iff] at e
  obtain ⟨⟨os, δ1⟩, e1, ds, e2, e3⟩ := e
  split at e3
  · rename_i hl
    cases e3
    refine ⟨G, H0, δ, os, δ1, eK, R, e1, fun vs H0' H' R1 s1 k1 => ?_⟩
    have ra := k1.vals e2
    refine ⟨line_le (by rw [ra.length]; exact hl), fun p hp => ?_⟩
    obtain ⟨R2, s2⟩ := R1.laid0 (o := .tup vs) hp
    exact q _ _ _ R2 (s1.trans s2) (.tup (SqT.of upd_same) (ra.sub s2))
  · cases e3
theorem x_lst {es : List Expr} {A : Ea} (ha : XA X es A) : XV X (.List es pos) (vLst A) := (pe_lst ha).weak fun σ H Q ⟨G, H0, δ, res, δ', eK, R, e, q⟩ => by
  simp only [vLst, Option.bind_eq_some_iff] at e
  obtain ⟨⟨os, δ1⟩, e1, ds, e2, e3⟩ := e
  split at e3
  · rename_i hl
    cases e3
    refine ⟨G, H0, δ, os, δ1, eK, R, e1, fun vs H0' H' R1 s1 k1 => ?_⟩
    have ra := k1.vals e2
    refine ⟨line_le (by rw [ra.length]; exact hl), fun p hp => ?_⟩
    have f := R1.fresh hp
    exact q _ _ _ (R1.laid hp) s1 ⟨p, vs, rfl, upd_same, ra, f.1, f.2.1, f.2.2⟩
  · cases e3

/-! ### slices -/
theorem xp_none : XP X none pNo := po_none.weak fun σ H Q ⟨G, H0, δ, res, δ', eK, R, e, q⟩ => by
  cases e
  exact q _ _ R (Sub.refl _)
theorem xp_some (ha : XO X a f) : XP X (some a) (pSo f) := (po_some ha).weak fun σ H Q ⟨G, H0, δ, res, δ', eK, R, e, q⟩ => by
  simp only [pSo, Option.bind_eq_some_iff] at e
  obtain ⟨⟨o, δ1⟩, e1, e2⟩ := e
  refine ⟨G, H0, δ, o, δ1, eK, R, e1, fun v H0' H' R1 s1 k1 => ?_⟩
  cases o with
  | «at» i => cases e2
  | val d =>
    cases d with
    | int i =>
      cases e2
      cases k1
      exact ⟨i, rfl, q _ _ R1 s1⟩
    | _ => cases e2
theorem clampIx_eq (n d : Nat) (o : Option Int) : clampIx n d o = HT.sIx n d o := by cases o <;> rfl
theorem cut_rel {K : PySem.W.Frag} {H0 : Hp} {vs : List V} {ds : List D} (r : RelAll K H0 vs ds) (lo hi : Option Int) : RelAll K H0 (cutV vs lo hi) (cutD ds lo hi) := by
  unfold cutV cutD
  rw [clampIx_eq, clampIx_eq, r.length]
  exact (r.drop _).take _
theorem x_sl {lo hi : Option Expr} {L U : Env → Option (Option Int × Env)} {p2 : Pos} (ha : XO X a f) (hl : XP X lo L) (hu : XP X hi U) : XV X (.Subscript a (.Slice lo hi none p2) pos) (fSl f L U) :=
  (pe_slice (sl_list.or sl_tupA) ha hl hu).weak fun σ H Q ⟨G, H0, δ, res, δ', eK, R, e, q⟩ => by
    simp only [fSl, Option.bind_eq_some_iff] at e
    obtain ⟨⟨o, δ1⟩, e1, ⟨l, δ2⟩, e2, ⟨u, δ3⟩, e3, d, e4, e5⟩ := e
    refine ⟨G, H0, δ, o, δ1, eK, R, e1, fun v H0' H' R1 s1 k1 => ?_⟩
    refine ⟨G, H0', δ1, l, δ2, eK, R1, e2, fun A A' R2 s2 => ?_⟩
    refine ⟨G, A, δ2, u, δ3, eK, R2, e3, fun B B' R3 s3 => ?_⟩
    have rr := R3.rd ((k1.sub s2).sub s3) e4
    have list : ∀ p xs ds, v = .ref p → B' p = some (.lst xs) → RelAll G.K B xs ds → d = .list ds → rSlL X.K v l u B' Q ∨ rSlA X.K v l u B' Q := by
      intro p xs ds ev h1 h2 ed
      subst ed ev
      cases e5
      refine .inl ⟨p, xs, rfl, SqL.of h1, fun z hz => ?_⟩
      have fr := R3.fresh hz
      exact q _ _ _ (R3.laid hz) ((s1.trans s2).trans s3) ⟨z, _, rfl, upd_same, cut_rel h2 l u, fr.1, fr.2.1, fr.2.2⟩
    rcases rr with rr | ⟨p, xs, ds, ed, ev, h1, h2⟩
    · cases rr with
      | lst h1 h2 => exact list _ _ _ rfl (R3.sub _ _ h1) h2 rfl
      | tup h1 h2 =>
        rename_i p xs ds
        cases e5
        refine .inr ⟨p, xs, rfl, by rw [← eK]; exact SqT.sub R3.sub h1, fun hw => ?_, fun _ z hz => ?_⟩
        · refine q _ _ _ R3 ((s1.trans s2).trans s3) ?_
          have ec : cutD ds l u = ds := by
            unfold cutD
            rw [clampIx_eq, clampIx_eq, ← h2.length, hw.1, hw.2]
            simp [h2.length]
          show Rel G.K B (.ref p) (.tuple (cutD ds l u))
          rw [ec]
          exact .tup h1 h2
        · obtain ⟨R4, s4⟩ := R3.laid0 (o := .tup (cutV xs l u)) hz
          exact q _ _ _ R4 (((s1.trans s2).trans s3).trans s4) (.tup (SqT.of upd_same) ((cut_rel h2 l u).sub s4))
      | _ => cases e5
    · exact list _ _ _ ev h1 h2 ed

/-! ### builtins -/
inductive RelTAll (K : PySem.W.Frag) (H0 H : Hp) : List V → List D → Prop
  | nil : RelTAll K H0 H [] []
  | cons {v : V} {vs : List V} {d : D} {ds : List D} : RelT K H0 H v d → RelTAll K H0 H vs ds → RelTAll K H0 H (v :: vs) (d :: ds)
theorem Rl.rdAll {G : Gx} {H0 H : Hp} {δ : Env} {σ : L2.St} (R : Rl G H0 H δ σ) : ∀ {os : List Opd} {vs : List V} {ds : List D}, OpdAll G H0 σ os vs → rdAll δ os = some ds → RelTAll G.K H0 H vs ds
  | _, _, _, .nil, e => by
    cases e
    exact .nil
  | _, _, _, .cons h t, e => by
    simp only [IP.rdAll, Option.bind_eq_some_iff, Option.map_eq_some_iff] at e
    obtain ⟨d, e1, es, e2, rfl⟩ := e
    exact .cons (R.rd h e1) (Rl.rdAll R t e2)
def BiS (K : PySem.W.Frag) (r : List V → Hp → VK → Prop) (b : List D → Option Res) : Prop :=
  ∀ (G : Gx) (H0 H : Hp) (δ : Env) (σ : L2.St) (vs : List V) (ds : List D) (res : Res), G.K = K → Rl G H0 H δ σ → RelTAll G.K H0 H vs ds → b ds = some res →
    ∀ Q : VK, (∀ v H0' H', Rl G H0' H' δ σ → Sub H0 H0' → ResOk G H0' H' δ σ res v → Q v H') → r vs H Q
theorem bi_read {r : List V → Hp → VK → Prop} {b : List D → Option Res} {A : Ea} (hs : BiS K r b) {σ : L2.St} {H : Hp} {Q : VK} (h : kE K (vBi b A) σ H Q) : tCB r (kA K A) σ H Q := by
  obtain ⟨G, H0, δ, res, δ', eK, R, e, q⟩ := h
  simp only [vBi, Option.bind_eq_some_iff, Option.map_eq_some_iff] at e
  obtain ⟨⟨os, δ1⟩, e1, ds, e2, r', e3, e4⟩ := e
  cases e4
  refine ⟨G, H0, δ, os, δ1, eK, R, e1, fun vs H0' H' R1 s1 k1 => ?_⟩
  exact hs G H0' H' δ1 σ vs ds _ eK R1 (R1.rdAll k1 e2) e3 Q fun z C D R3 s3 k3 => q z C D R3 (s1.trans s3) k3
theorem x_biB {id : String} {r : List V → Hp → VK → Prop} {bb : List D → Option Res} {A : Ea} {x : Str} {p : Pos} {es : List Expr} (hc : CallR X (.builtin id) r) (hs : BiS X.K r bb) (hg : Gl X x) (hm : X.mg x = none) (hv : bootBuiltins x = some (.builtin id)) (ha : XA X (a :: es) A)
    (hn : x ≠ "__name__" := by decide) (hdb : (x == ("__debug__" : Str)) = false := by decide) (h1 : starEach (a :: es) X.env = (false, eval a X.env) :: starEach es X.env := by rfl) (h2 : (backTo pos (starEach es X.env)).any (·.1) = false := by rfl) : XV X (.Call (.Name x p) (a :: es) [] pos) (vBi bb A) :=
  (pe_callB hc hg hm hv ha hn hdb h1 h2).weak fun _ _ _ h => bi_read hs h
theorem x_biT {id : String} {r : List V → Hp → VK → Prop} {bb : List D → Option Res} {A : Ea} {x : Str} {p : Pos} {es : List Expr} (hc : CallR X (.type id) r) (hs : BiS X.K r bb) (hg : Gl X x) (hm : X.mg x = none) (hv : bootBuiltins x = some (.type id)) (ha : XA X (a :: es) A)
    (hn : x ≠ "__name__" := by decide) (hdb : (x == ("__debug__" : Str)) = false := by decide) (h1 : starEach (a :: es) X.env = (false, eval a X.env) :: starEach es X.env := by rfl) (h2 : (backTo pos (starEach es X.env)).any (·.1) = false := by rfl) : XV X (.Call (.Name x p) (a :: es) [] pos) (vBi bb A) :=
  (pe_callTy hc hg hm hv ha hn hdb h1 h2).weak fun _ _ _ h => bi_read hs h
end
end IP
end
section
set_option Elab.async false
set_option linter.all false
set_option maxRecDepth 100000
set_option maxHeartbeats 2000000
namespace IP
open PySem L2
/-! ### calls of the text's own functions -/
def RetOk (K : PySem.W.Frag) (H H0' H' : Hp) : Res → V → Prop
  | .dat d, v => Rel K H0' v d
  | .new ds, v => ∃ q vs, v = .ref q ∧ H' q = some (.lst vs) ∧ RelAll K H0' vs ds ∧ H0' q = none ∧ H q = none
def Fro (H0 H H0' : Hp) : Prop := ∀ a o, H0' a = some o → (∃ u, H0 a = some u) ∨ H a = none
/-- what a function promises -/
def spI (K : PySem.W.Frag) (c : Fnc) : Sp := fun vs H Q _ => ∃ (H0 : Hp) (ds : List D) (r : Res), Sub H0 H ∧
  ((RelAll K H0 vs ds ∧ c none ds = some (r, none) ∧ ∀ v H0' H', Sub H0 H0' → Sub H0' H' → Sub H H' → Fro H0 H H0' → RetOk K H H0' H' r v → Q v H') ∨
   (∃ p xs xds yds ws, vs = .ref p :: ws ∧ RelAll K H0 ws ds ∧ H p = some (.lst xs) ∧ RelAll K H0 xs xds ∧ H0 p = none ∧ c (some xds) ds = some (r, some yds) ∧
     ∀ v H0' H' ys, Sub H0 H0' → Sub H0' H' → (∀ a o, H a = some o → a ≠ p → H' a = some o) → Fro H0 H H0' → H' p = some (.lst ys) → RelAll K H0' ys yds → H0' p = none → RetOk K H H0' H' r v → Q v H'))
section
variable {K : PySem.W.Frag} {A B : Hp}
/-- values without lists do not read lists -/
theorem Rel.noList : ∀ {v : V} {d : D}, Rel K A v d → noList d = true → (∀ a o, A a = some o → (∀ xs, o ≠ .lst xs) → B a = some o) → Rel K B v d := by
  intro v d r
  refine Rel.rec (motive_1 := fun v d _ => IP.noList d = true → (∀ a o, A a = some o → (∀ xs, o ≠ .lst xs) → B a = some o) → Rel K B v d) (motive_2 := fun vs ds _ => noListAll ds = true → (∀ a o, A a = some o → (∀ xs, o ≠ .lst xs) → B a = some o) → RelAll K B vs ds) ?_ ?_ ?_ ?_ ?_ ?_ ?_ ?_ ?_ r
  · intro _ _; exact .non
  · intro b _ _; exact .bl b
  · intro i _ _; exact .int i
  · intro x _ _; exact .str x
  · intro a xs ds e r ih c _
    simp [IP.noList] at c
  · intro a xs ds e r ih c k
    refine .tup ?_ (ih (by simpa [IP.noList] using c) k)
    rcases e with (e | ⟨o, e⟩) | e
    · exact .inl (.inl (k _ _ e fun xs z => nomatch z))
    · exact .inl (.inr ⟨o, k _ _ e fun xs z => nomatch z⟩)
    · exact .inr e
  · intro a ns e c
    simp [IP.scr, IP.noList] at c
  · intro _ _; exact .nil
  · intro v vs d ds r1 r2 h1 h2 c k
    have c' : IP.noList d = true ∧ noListAll ds = true := by simpa [noListAll] using c
    exact .cons (h1 c'.1 k) (h2 c'.2 k)
theorem RelAll.noList : ∀ {vs : List V} {ds : List D}, RelAll K A vs ds → noListAll ds = true → (∀ a o, A a = some o → (∀ xs, o ≠ .lst xs) → B a = some o) → RelAll K B vs ds
  | _, _, .nil, _, _ => .nil
  | _, _, .cons r t, c, k => by
    have c' := by simpa [noListAll] using c
    exact .cons (r.noList c'.1 k) (RelAll.noList t c'.2 k)
end
section
variable {G : Gx} {H0 H H0' H' : Hp} {δ δ' : Env} {σ : L2.St}
/-- the heap has grown, the owned lists stand -/
theorem Rl.grow (R : Rl G H0 H δ σ) (hH : Sub H H') (h0 : Sub H0 H0') (hs : Sub H0' H') (hf : Fro H0 H H0') : Rl G H0' H' δ σ := by
  have nf : ∀ p u, H p = some u → H0 p = none → H0' p = none := fun p u e n => by
    cases q : H0' p with
    | none => rfl
    | some o =>
      rcases hf p o q with ⟨u', e'⟩ | e'
      · rw [n] at e'
        cases e'
      · rw [e] at e'
        cases e'
  refine ⟨R.len, hs, R.up.trans h0, fun a o e h => hH a o (R.keep a o e h), fun a o e => ?_, fun i s e => ?_, R.inj, R.prs⟩
  · rcases hf a o e with ⟨u, h⟩ | h
    · exact R.fro a u h
    · exact .inr (R.fresh h).2.1
  · have sj := R.slot i s e
    cases s with
    | un => trivial
    | dat d =>
      obtain ⟨v, e1, r⟩ := sj
      exact ⟨v, e1, r.sub h0⟩
    | own ds =>
      obtain ⟨p, vs, e1, e2, e3, e4, e5⟩ := sj
      exact ⟨p, vs, e1, hH _ _ e2, e3.sub h0, nf p _ e2 e4, e5⟩
    | prm ds =>
      obtain ⟨p, vs, e1, e0, e2, e3, e4⟩ := sj
      exact ⟨p, vs, e1, e0, hH _ _ e2, e3.sub h0, nf p _ e2 e4⟩
theorem ResOk.of {r : Res} {v : V} (R : Rl G H0 H δ σ) (h : RetOk G.K H H0' H' r v) : ResOk G H0' H' δ σ r v := by
  cases r with
  | dat d => exact h
  | new ds =>
    obtain ⟨q, vs, e1, e2, e3, e4, e5⟩ := h
    have f := R.fresh e5
    exact ⟨q, vs, e1, e2, e3, e4, f.2.1, f.2.2⟩
theorem OpdAll.vals0 : ∀ {os : List Opd} {vs : List V} {ds : List D}, OpdAll G H0 σ os vs → anyAt os = false → rdAll δ os = some ds → RelAll G.K H0 vs ds
  | _, _, _, .nil, _, e => by
    cases e
    exact .nil
  | _, _, _, .cons (o := o) h t, n, e => by
    cases o with
    | val d =>
      simp only [IP.rdAll, IP.rd, Option.bind_eq_some_iff, Option.map_eq_some_iff, Option.some.injEq] at e
      obtain ⟨d', rfl, es, e2, rfl⟩ := e
      exact .cons h (OpdAll.vals0 t n e2)
    | «at» i => cases n
end
section
variable {X : Cx} {K : PySem.W.Frag} {c : Fnc} {A : Ea}
open Classical in
theorem call_read {σ : L2.St} {H : Hp} {Q : VK} {E : XK} (h : kE K (vCall c A) σ H Q) : tCall (spI K c) [] E (kA K A) σ H Q := by
  obtain ⟨G, H0, δ, res, δ', eK, R, e, q⟩ := h
  subst eK
  simp only [vCall, Option.bind_eq_some_iff] at e
  obtain ⟨⟨os, δ1⟩, e1, ds, e2, ⟨r, out⟩, e3, e4⟩ := e
  cases out with
  | some _ => cases e4
  | none =>
    refine ⟨G, H0, δ, os, δ1, rfl, R, e1, fun vs A' H' R1 s1 k1 => ?_⟩
    show spI G.K c (vs ++ []) H' Q E
    rw [List.append_nil]
    by_cases hat : anyAt os = false
    · dsimp only at e4
      rw [if_pos hat] at e4
      cases e4
      refine ⟨A', ds, _, R1.sub, .inl ⟨k1.vals0 hat e2, e3, fun v B H'' h1 h2 h3 h4 h5 => ?_⟩⟩
      exact q v B H'' (R1.grow h3 h1 h2 h4) (s1.trans h1) (ResOk.of R1 h5)
    · dsimp only at e4
      rw [if_neg hat] at e4
      -- the owned lists are lent
      let L : Addr → Prop := fun a => ∃ i, Holds δ1 σ i a
      let AC : Hp := fun a => if L a then H' a else A' a
      have nL : ∀ a, L a → A' a = none := fun a ⟨i, ⟨s, x1, x2⟩, x3⟩ => by
        have := R1.slot i s x1
        cases s with
        | own ds =>
          obtain ⟨p, ws, y1, y2, y3, y4, y5⟩ := this
          rw [x3] at y1
          cases y1
          exact y4
        | prm ds =>
          obtain ⟨p, ws, y1, y0, y2, y3, y4⟩ := this
          rw [x3] at y1
          cases y1
          exact y4
        | _ => cases x2
      have lL : ∀ a, L a → ∃ xs, H' a = some (.lst xs) := fun a ⟨i, ⟨s, x1, x2⟩, x3⟩ => by
        have := R1.slot i s x1
        cases s with
        | own ds =>
          obtain ⟨p, ws, y1, y2, y3, y4, y5⟩ := this
          rw [x3] at y1
          cases y1
          exact ⟨_, y2⟩
        | prm ds =>
          obtain ⟨p, ws, y1, y0, y2, y3, y4⟩ := this
          rw [x3] at y1
          cases y1
          exact ⟨_, y2⟩
        | _ => cases x2
      have subA : Sub A' AC := fun a o e => by
        show (if L a then H' a else A' a) = some o
        by_cases ha : L a
        · rw [nL a ha] at e
          cases e
        · rw [if_neg ha]
          exact e
      have subH : Sub AC H' := fun a o e => by
        have e' : (if L a then H' a else A' a) = some o := e
        by_cases ha : L a
        · rw [if_pos ha] at e'
          exact e'
        · rw [if_neg ha] at e'
          exact R1.sub a o e'
      have rel : ∀ {os : List Opd} {vs : List V} {ds : List D}, OpdAll G A' σ os vs → rdAll δ1 os = some ds → RelAll G.K AC vs ds := by
        intro os vs ds h
        induction h generalizing ds with
        | nil =>
          intro e
          cases e
          exact .nil
        | cons h t ih =>
          intro e
          rename_i o os v vs
          simp only [IP.rdAll, Option.bind_eq_some_iff, Option.map_eq_some_iff] at e
          obtain ⟨d, x1, es, x2, rfl⟩ := e
          refine .cons ?_ (ih x2)
          cases o with
          | val d' =>
            simp only [IP.rd, Option.some.injEq] at x1
            subst x1
            exact Rel.sub subA h
          | «at» i =>
            simp only [IP.rd, Option.bind_eq_some_iff] at x1
            obtain ⟨s, y1, y2⟩ := x1
            have h' : σ[i]? = some (some v) := h
            have sj := R1.slot i s y1
            cases s with
            | un => cases y2
            | dat d' =>
              simp only [slotD, Option.some.injEq] at y2
              subst y2
              obtain ⟨w, z1, z2⟩ := sj
              rw [h'] at z1
              cases z1
              exact z2.sub subA
            | own ds =>
              simp only [slotD, Option.some.injEq] at y2
              subst y2
              obtain ⟨p, ws, z1, z2, z3, z4, z5⟩ := sj
              rw [h'] at z1
              cases z1
              refine .lst ?_ (z3.sub subA)
              show (if L p then H' p else A' p) = _
              rw [if_pos ⟨i, ⟨_, y1, rfl⟩, h'⟩]
              exact z2
            | prm ds =>
              simp only [slotD, Option.some.injEq] at y2
              subst y2
              obtain ⟨p, ws, z1, z0, z2, z3, z4⟩ := sj
              rw [h'] at z1
              cases z1
              refine .lst ?_ (z3.sub subA)
              show (if L p then H' p else A' p) = _
              rw [if_pos ⟨i, ⟨_, y1, rfl⟩, h'⟩]
              exact z2
      refine ⟨AC, ds, r, subH, .inl ⟨rel k1 e2, e3, fun v B H'' h1 h2 h3 h4 h5 => ?_⟩⟩
      let B0 : Hp := fun a => if L a then none else B a
      have b1 : Sub A' B0 := fun a o e => by
        show (if L a then none else B a) = some o
        by_cases ha : L a
        · rw [nL a ha] at e
          cases e
        · rw [if_neg ha]
          exact h1 a o (subA a o e)
      have b2 : Sub B0 H'' := fun a o e => by
        have e' : (if L a then none else B a) = some o := e
        by_cases ha : L a
        · rw [if_pos ha] at e'
          cases e'
        · rw [if_neg ha] at e'
          exact h2 a o e'
      have b3 : Fro A' H' B0 := fun a o e => by
        have e' : (if L a then none else B a) = some o := e
        by_cases ha : L a
        · rw [if_pos ha] at e'
          cases e'
        · rw [if_neg ha] at e'
          rcases h4 a o e' with ⟨u, hu⟩ | hu
          · have hu' : (if L a then H' a else A' a) = some u := hu
            rw [if_neg ha] at hu'
            exact .inl ⟨u, hu'⟩
          · exact .inr hu
      have b4 : ∀ a o, B a = some o → (∀ xs, o ≠ .lst xs) → B0 a = some o := fun a o e n => by
        show (if L a then none else B a) = some o
        by_cases ha : L a
        · obtain ⟨xs, hx⟩ := lL a ha
          have : AC a = some (.lst xs) := by
            show (if L a then H' a else A' a) = _
            rw [if_pos ha]
            exact hx
          rw [h1 a _ this] at e
          cases e
          exact absurd rfl (n xs)
        · rw [if_neg ha]
          exact e
      have b5 : Rl G B0 H'' δ1 σ := R1.grow h3 b1 b2 b3
      cases r with
      | dat d =>
        simp only at e4
        split at e4
        · rename_i hn
          cases e4
          exact q v B0 H'' b5 (s1.trans b1) (Rel.noList h5 hn b4)
        · cases e4
      | new es =>
        simp only at e4
        split at e4
        · rename_i hn
          cases e4
          obtain ⟨z, ws, x1, x2, x3, x4, x5⟩ := h5
          have f := R1.fresh x5
          refine q v B0 H'' b5 (s1.trans b1) ⟨z, ws, x1, x2, x3.noList hn b4, ?_, f.2.1, f.2.2⟩
          show (if L z then none else B z) = none
          by_cases hz : L z
          · rw [if_pos hz]
          · rw [if_neg hz]
            exact x4
        · cases e4
theorem callR_read {σ : L2.St} {H : Hp} {Q : VK} {E : XK} {i : Nat} (h : kE K (vCallR c i A) σ H Q) : tCall (spI K c) [] E (tCons (tVar i) (kA K A)) σ H Q := by
  obtain ⟨G, H0, δ, res, δ', eK, R, e, q⟩ := h
  subst eK
  simp only [vCallR, Option.bind_eq_some_iff] at e
  obtain ⟨⟨os, δ1⟩, e1, ds, e2, e3⟩ := e
  split at e1
  · rename_i ho
    have hv : ∃ p, σ[i]? = some (some (.ref p)) := by
      unfold ownAt at ho
      cases es : δ[i]? with
      | none =>
        rw [es] at ho
        cases ho
      | some s =>
        rw [es] at ho
        have sj := R.slot i s es
        cases s with
        | own ds =>
          obtain ⟨p, vs, h1, _⟩ := sj
          exact ⟨p, h1⟩
        | prm ds =>
          obtain ⟨p, vs, h1, _⟩ := sj
          exact ⟨p, h1⟩
        | _ => cases ho
    obtain ⟨p, hp⟩ := hv
    refine ⟨.ref p, hp, G, H0, δ, os, δ1, rfl, R, e1, fun vs A' H' R1 s1 k1 => ?_⟩
    show spI G.K c (.ref p :: vs ++ []) H' Q E
    rw [List.append_nil]
    have ra := k1.vals e2
    have key : ∀ (s s' : Slot) (xs : List D) (r : Res) (ys : List D), δ1[i]? = some s → isOwn s = true → c (some xs) ds = some (r, some ys) → (∃ vs, H' p = some (.lst vs) ∧ RelAll G.K A' vs xs ∧ A' p = none) → ((s' = .own ys ∧ ∃ xs, s = .own xs) ∨ (s' = .prm ys ∧ ∃ xs, s = .prm xs)) →
        res = r → δ' = δ1.set i s' → spI G.K c (.ref p :: vs) H' Q E := by
      rintro s s' xs r ys x1 x2 x3 ⟨ws, x4, x5, x6⟩ x7 rfl rfl
      refine ⟨A', ds, res, R1.sub, .inr ⟨p, ws, xs, ys, vs, rfl, ra, x4, x5, x6, x3, fun v B H'' zs h1 h2 h3 h4 h5 h6 h7 h8 => ?_⟩⟩
      have hB : Sub B (upd H'' p (.lst ws)) := fun a o e => by
        rw [upd_ne (ne_of_none e h7)]
        exact h2 a o e
      have hH : Sub H' (upd H'' p (.lst ws)) := fun a o e => by
        by_cases ha : a = p
        · subst ha
          rw [upd_same, ← e, x4]
        · rw [upd_ne ha]
          exact h3 a o e ha
      have R2 : Rl G B (upd H'' p (.lst ws)) δ1 σ := R1.grow hH h1 hB h4
      have R3 := R2.put (p := p) x1 x2 hp h6 x7
      rw [upd_upd] at R3
      have e5 : upd H'' p (.lst zs) = H'' := by
        funext a
        by_cases ha : a = p
        · subst ha
          rw [upd_same, h5]
        · rw [upd_ne ha]
      rw [e5] at R3
      refine q v B H'' R3 (s1.trans h1) ?_
      cases res with
      | dat d => exact h8
      | new es =>
        obtain ⟨z, us, y1, y2, y3, y4, y5⟩ := h8
        have f := R1.fresh y5
        refine ⟨z, us, y1, y2, y3, y4, f.2.1, fun j hj => f.2.2 j ?_⟩
        obtain ⟨⟨u, u1, u2⟩, u3⟩ := hj
        by_cases hij : i = j
        · subst hij
          exact ⟨⟨s, x1, x2⟩, u3⟩
        · rw [List.getElem?_set_ne hij] at u1
          exact ⟨⟨u, u1, u2⟩, u3⟩
    dsimp only at e3
    cases es : δ1[i]? with
    | none =>
      rw [es] at e3
      cases e3
    | some s =>
      rw [es] at e3
      have sj := R1.slot i s es
      cases s with
      | own xs =>
        simp only [Option.bind_eq_some_iff] at e3
        obtain ⟨⟨r, out⟩, e4, e5⟩ := e3
        cases out with
        | none => cases e5
        | some ys =>
          cases e5
          obtain ⟨p', ws, y1, y2, y3, y4, y5⟩ := sj
          rw [hp] at y1
          cases y1
          exact key _ _ xs _ ys es rfl e4 ⟨ws, y2, y3, y4⟩ (.inl ⟨rfl, xs, rfl⟩) rfl rfl
      | prm xs =>
        simp only [Option.bind_eq_some_iff] at e3
        obtain ⟨⟨r, out⟩, e4, e5⟩ := e3
        cases out with
        | none => cases e5
        | some ys =>
          cases e5
          obtain ⟨p', ws, y1, y0, y2, y3, y4⟩ := sj
          rw [hp] at y1
          cases y1
          exact key _ _ xs _ ys es rfl e4 ⟨ws, y2, y3, y4⟩ (.inr ⟨rfl, xs, rfl⟩) rfl rfl
      | _ => cases e3
  · cases e1
variable {CX : CXT} {k : Nat} {fa : Addr} {fd : FuncData} {ps : List Str} {E : XK} {x : Str} {p pos : Pos} {e : Expr} {es : List Expr}
/-- f(e, ..) -/
theorem x_call (F : FnOk X.prog X.w X.K X.mg X.base CX k fa fd ps (spI X.K c)) (hr : Room k X.A) (hg : Gl X x) (hm : X.mg x = some (.ref fa)) (hk : PySem.W.keepIn X.K (.ref fa) = true) (hb : Binds X.K fd ps []) (hx : Passes CX X E)
    (ha : XA X (e :: es) A) (hdb : (x == ("__debug__" : Str)) = false := by decide) (he : starEach (e :: es) X.env = (false, eval e X.env) :: starEach es X.env := by rfl) (hpl : (backTo pos (starEach es X.env)).any (·.1) = false := by rfl) :
    XV X (.Call (.Name x p) (e :: es) [] pos) (vCall c A) := (pe_call F hr hg hm hk hb .nil hx ha hdb he hpl).weak fun _ _ _ h => call_read h
/-- f(), a def without parameters -/
theorem x_call0 (F : FnOk X.prog X.w X.K X.mg X.base CX k fa fd ps (spI X.K c)) (hr : Room k X.A) (hg : Gl X x) (hm : X.mg x = some (.ref fa)) (hk : PySem.W.keepIn X.K (.ref fa) = true) (hb : Binds X.K fd ps []) (hx : Passes CX X E)
    (hdb : (x == ("__debug__" : Str)) = false := by decide) : XV X (.Call (.Name x p) [] [] pos) (vCall c aNil) := (pe_call0 F hr hg hm hk hb .nil hx hdb).weak fun σ H Q h => by
  obtain ⟨G, H0, δ, os, δ', eK, R, e, q⟩ := call_read (E := E) h
  cases e
  exact q [] H0 H R (Sub.refl _) .nil
/-- f(row, e, ..), the list row by reference -/
theorem x_callR {i : Nat} {y : Str} {py : Pos} (F : FnOk X.prog X.w X.K X.mg X.base CX k fa fd ps (spI X.K c)) (hr : Room k X.A) (hg : Gl X x) (hm : X.mg x = some (.ref fa)) (hk : PySem.W.keepIn X.K (.ref fa) = true) (hb : Binds X.K fd ps []) (hx : Passes CX X E)
    (hv : PE X (.Name y py) (tVar i)) (ha : XA X es A) (hs : starEach (.Name y py :: es) X.env = (false, eval (.Name y py) X.env) :: starEach es X.env := by rfl) (hdb : (x == ("__debug__" : Str)) = false := by decide) (hpl : (backTo pos (starEach es X.env)).any (·.1) = false := by rfl) :
    XV X (.Call (.Name x p) (.Name y py :: es) [] pos) (vCallR c i A) := (pe_call F hr hg hm hk hb .nil hx (pa_cons hv ha hs) hdb hs hpl).weak fun _ _ _ h => callR_read h
end
end IP
end
section
set_option Elab.async false
set_option linter.all false
set_option maxRecDepth 100000
set_option maxHeartbeats 2000000
namespace IP
open PySem L2
/-! ### targets -/
def GS (K : PySem.W.Frag) (g : TG) (t : Tg) : Prop := ∀ (G : Gx) (A H : Hp) (δ δ' : Env) (σ : L2.St) (v : V) (d : D), G.K = K → Rl G A H δ σ → Rel G.K A v d → t.put d δ = some δ' →
  ∀ Q : L2.St → Hp → Prop, (∀ σ', Rl G A H δ' σ' → (∀ vs, (∀ i ∈ t.slots, i ∈ vs) → wipe σ' vs = wipe σ vs) → Q σ' H) → g v σ H Q
theorem wipe_set {σ : L2.St} {i : Nat} {x : Option V} : ∀ {vs : List Nat}, i ∈ vs → wipe (σ.set i x) vs = wipe σ vs
  | [], h => by simp at h
  | v :: vs, h => by
    unfold wipe
    by_cases hv : i ∈ vs
    · rw [wipe_set hv]
    · have e : i = v := by
        rcases List.mem_cons.mp h with e | e
        · exact e
        · exact absurd e hv
      subst e
      have comm : ∀ ws : List Nat, i ∉ ws → wipe (σ.set i x) ws = (wipe σ ws).set i x := by
        intro ws
        induction ws with
        | nil => intro _; rfl
        | cons w ws ih =>
          intro hn
          simp only [List.mem_cons, not_or] at hn
          unfold wipe
          rw [ih hn.2, List.set_comm _ _ hn.1]
      rw [comm vs hv, List.set_set]
section
variable {K : PySem.W.Frag}
theorem gs_nm {i : Nat} : GS K (gName i) (.nm i) := by
  intro G A H δ δ' σ v d eK R r e Q q
  refine q _ (Rl.set R e ?_ (fun ds z => nomatch z) (fun z => nomatch z)) fun vs h => wipe_set (h i (by simp [Tg.slots]))
  have hlt : i < σ.length := by
    rw [R.len]
    have e' : setSlot δ i (.dat d) = some δ' := e
    unfold setSlot at e'
    cases es : δ[i]? with
    | none =>
      rw [es] at e'
      cases e'
    | some s => exact (List.getElem?_eq_some_iff.mp es).1
  exact ⟨v, List.getElem?_set_self hlt, r⟩
inductive GSs (K : PySem.W.Frag) : TGs → List Nat → Prop
  | nil : GSs K gNil []
  | cons {t : TGs} {i : Nat} {is : List Nat} : GSs K t is → GSs K (gCons (gName i) t) (i :: is)
theorem gs_tup {n : Nat} {t : TGs} {is : List Nat} (hn : n = is.length) (h : GSs K t is) : GS K (gTup K n t) (.tup is) := by
  intro G A H δ δ' σ v d eK R r e Q q
  cases d with
  | tuple ds =>
    cases r with
    | tup h1 h2 =>
      rename_i p xs
      have e' : setDs δ is ds = some δ' := e
      have hlen : ∀ {δ : Env} {is : List Nat} {ds : List D}, setDs δ is ds = some δ' → is.length = ds.length := by
        intro δ is
        induction is generalizing δ with
        | nil =>
          intro ds e
          cases ds with
          | nil => rfl
          | cons _ _ => cases e
        | cons i is ih =>
          intro ds e
          cases ds with
          | nil => cases e
          | cons d ds =>
            simp only [setDs, Option.bind_eq_some_iff] at e
            obtain ⟨δ1, _, e2⟩ := e
            rw [List.length_cons, List.length_cons, ih e2]
      refine ⟨p, xs, rfl, by rw [← eK]; exact SqT.sub R.sub h1, by rw [h2.length, hn, hlen e'], ?_⟩
      have go : ∀ (t : TGs) (is : List Nat), GSs K t is → ∀ (δ : Env) (σ : L2.St) (xs : List V) (ds : List D), Rl G A H δ σ → RelAll G.K A xs ds → setDs δ is ds = some δ' →
          ∀ Q : L2.St → Hp → Prop, (∀ σ', Rl G A H δ' σ' → (∀ vs, (∀ i ∈ is, i ∈ vs) → wipe σ' vs = wipe σ vs) → Q σ' H) → t xs σ H Q := by
        intro t is h
        induction h with
        | nil =>
          intro δ σ xs ds R r e Q q
          cases ds with
          | nil =>
            cases r
            cases e
            exact ⟨rfl, q σ R fun vs _ => rfl⟩
          | cons _ _ => cases e
        | cons h ih =>
          rename_i t i is
          intro δ σ xs ds R r e Q q
          cases ds with
          | nil => cases e
          | cons d ds =>
            cases r with
            | cons r1 r2 =>
              simp only [setDs, Option.bind_eq_some_iff] at e
              obtain ⟨δ1, e1, e2⟩ := e
              refine ⟨_, _, rfl, ?_⟩
              refine gs_nm (K := K) G A H δ δ1 σ _ d eK R r1 e1 _ fun σ1 R1 w1 => ?_
              exact ih δ1 σ1 _ ds R1 r2 e2 Q fun σ2 R2 w2 => q σ2 R2 fun vs hv => (w2 vs fun j hj => hv j (List.mem_cons_of_mem _ hj)).trans (w1 vs fun j hj => hv j (by
                have : j = i := by simpa [Tg.slots] using hj
                rw [this]
                exact List.mem_cons_self))
      exact go t is h δ σ xs ds R h2 e' Q q
  | _ => cases e
end

theorem Fro.refl {A H : Hp} : Fro A H A := fun a o e => .inl ⟨o, e⟩
/-! ### what is walked -/
structure IW (G : Gx) (H0 : Hp) (σ : L2.St) (J : It) (xs : List D) (ow : Option Nat) : Prop where
  goes : ∀ i A H δ τ, Rl G A H δ τ → Sub H0 A → (∀ k, ow = some k → τ[k]? = σ[k]?) → still δ xs ow = true → i < xs.length → J.go i H
  stops : ∀ A H δ τ, Rl G A H δ τ → Sub H0 A → (∀ k, ow = some k → τ[k]? = σ[k]?) → still δ xs ow = true → J.stop xs.length H
  yields : ∀ i A H δ τ x H', Rl G A H δ τ → Sub H0 A → (∀ k, ow = some k → τ[k]? = σ[k]?) → still δ xs ow = true → i < xs.length → J.yld i H x H' →
    ∃ B d, Rl G B H' δ τ ∧ Sub A B ∧ Sub H H' ∧ Fro A H B ∧ xs[i]? = some d ∧ Rel G.K B x d
def kI (K : PySem.W.Frag) (f : Ei) : TI := fun σ H R => ∃ G H0 δ xs ow δ', G.K = K ∧ Rl G H0 H δ σ ∧ f δ = some ((xs, ow), δ') ∧
  ∀ J H0' H', Rl G H0' H' δ' σ → Sub H0 H0' → IW G H0' σ J xs ow → R J H'
abbrev XI (X : Cx) (tg e : Expr) (f : Ei) : Prop := PI X tg e (kI X.K f)
section
variable {X : Cx} {K : PySem.W.Frag}
theorem _root_.L2.PI.weak {tg e : Expr} {t t' : TI} (h : PI X tg e t) (w : ∀ σ H R, t' σ H R → t σ H R) : PI X tg e t' := ⟨fun pins s σ H R I q => h.run pins s σ H R I (w σ H R q)⟩
theorem PI.or_ {tg e : Expr} {t t' : TI} {s : TI} (h : PI X tg e t) (h' : PI X tg e t') (w : ∀ σ H R, s σ H R → t σ H R ∨ t' σ H R) : PI X tg e s := ⟨fun pins st σ H R I q => by
  rcases w σ H R q with q | q
  · exact h.run pins st σ H R I q
  · exact h'.run pins st σ H R I q⟩
mutual
theorem same_eq : ∀ {a b : D}, same a b = true → a = b
  | .none, b, h => by cases b <;> simp_all [same]
  | .bool _, b, h => by cases b <;> simp_all [same]
  | .int _, b, h => by cases b <;> simp_all [same]
  | .str _, b, h => by cases b <;> simp_all [same]
  | .list xs, b, h => by
    cases b with
    | list ys =>
      have e := sameAll_eq (a := xs) (b := ys) (by simpa [same] using h)
      rw [e]
    | _ => simp [same] at h
  | .tuple xs, b, h => by
    cases b with
    | tuple ys =>
      have e := sameAll_eq (a := xs) (b := ys) (by simpa [same] using h)
      rw [e]
    | _ => simp [same] at h
  | .dict _, b, h => by cases b <;> simp [same] at h
theorem sameAll_eq : ∀ {a b : List D}, sameAll a b = true → a = b
  | [], b, h => by cases b <;> simp_all [sameAll]
  | x :: xs, b, h => by
    cases b with
    | nil => simp [sameAll] at h
    | cons y ys =>
      have h' : same x y = true ∧ sameAll xs ys = true := by simpa [sameAll] using h
      rw [same_eq h'.1, sameAll_eq h'.2]
end
/-- a sequence of values that is walked in place, by its address -/
def InPlace (G : Gx) (H0 : Hp) (σ : L2.St) (p : Addr) (xs : List D) (ow : Option Nat) : Prop :=
  match ow with
  | none => Rel G.K H0 (.ref p) (.list xs)
  | some k => σ[k]? = some (some (.ref p))
theorem inplace_at {G : Gx} {H0 A H : Hp} {δ : Env} {σ τ : L2.St} {p : Addr} {xs : List D} {ow : Option Nat} (h : InPlace G H0 σ p xs ow) (R : Rl G A H δ τ) (s : Sub H0 A) (hk : ∀ k, ow = some k → τ[k]? = σ[k]?) (st : still δ xs ow = true) :
    ∃ ys, H p = some (.lst ys) ∧ RelAll G.K A ys xs := by
  cases ow with
  | none =>
    have h' : Rel G.K H0 (.ref p) (.list xs) := h
    cases h' with
    | lst h1 h2 => exact ⟨_, R.sub _ _ (s _ _ h1), h2.sub s⟩
  | some k =>
    have h' : σ[k]? = some (some (.ref p)) := h
    rw [← hk k rfl] at h'
    simp only [still] at st
    cases es : δ[k]? with
    | none =>
      rw [es] at st
      cases st
    | some u =>
      rw [es] at st
      have sj := R.slot k u es
      cases u with
      | un => cases st
      | dat d =>
        obtain ⟨v, e1, r⟩ := sj
        rw [h'] at e1
        cases e1
        cases d with
        | list ys =>
          have e2 := sameAll_eq (a := xs) (b := ys) st
          subst e2
          cases r with
          | lst h1 h2 => exact ⟨_, R.sub _ _ h1, h2⟩
        | _ => cases st
      | own ys =>
        obtain ⟨q, vs, e1, e2, e3, _⟩ := sj
        rw [h'] at e1
        cases e1
        have e4 := sameAll_eq (a := xs) (b := ys) st
        subst e4
        exact ⟨vs, e2, e3⟩
      | prm ys =>
        obtain ⟨q, vs, e1, _, e2, e3, _⟩ := sj
        rw [h'] at e1
        cases e1
        have e4 := sameAll_eq (a := xs) (b := ys) st
        subst e4
        exact ⟨vs, e2, e3⟩
theorem iw_list {G : Gx} {H0 : Hp} {σ : L2.St} {p : Addr} {xs : List D} {ow : Option Nat} (h : InPlace G H0 σ p xs ow) : IW G H0 σ (Itl G.K p) xs ow where
  goes := fun i A H δ τ R s hk st hi => by
    obtain ⟨ys, e1, e2⟩ := inplace_at h R s hk st
    have hl : i < ys.length := by rw [e2.length]; exact hi
    exact ⟨ys, ys[i], SqL.of e1, by simp [hl]⟩
  stops := fun A H δ τ R s hk st => by
    obtain ⟨ys, e1, e2⟩ := inplace_at h R s hk st
    exact ⟨ys, SqL.of e1, Nat.le_of_eq e2.length⟩
  yields := fun i A H δ τ x H' R s hk st hi y => by
    obtain ⟨ys, e1, e2⟩ := inplace_at h R s hk st
    obtain ⟨rfl, y⟩ := y
    obtain ⟨d, h1, h2⟩ := e2.getV (y ys (SqL.of e1))
    exact ⟨A, d, R, Sub.refl _, Sub.refl _, Fro.refl, h1, h2⟩
theorem iw_tup {G : Gx} {H0 : Hp} {σ : L2.St} {p : Addr} {ys : List V} {xs : List D} (h : SqT G.K H0 p ys) (r : RelAll G.K H0 ys xs) {ow : Option Nat} : IW G H0 σ (Itt G.K p) xs ow where
  goes := fun i A H δ τ R s hk st hi => by
    have hl : i < ys.length := by rw [r.length]; exact hi
    exact ⟨ys, ys[i], SqT.sub R.sub (SqT.sub s h), by simp [hl]⟩
  stops := fun A H δ τ R s hk st => ⟨ys, SqT.sub R.sub (SqT.sub s h), Nat.le_of_eq r.length⟩
  yields := fun i A H δ τ x H' R s hk st hi y => by
    obtain ⟨rfl, y⟩ := y
    obtain ⟨d, h1, h2⟩ := r.getV (y ys (SqT.sub R.sub (SqT.sub s h)))
    exact ⟨A, d, R, Sub.refl _, Sub.refl _, Fro.refl, h1, h2.sub s⟩
/-- an operand that is a list, walked in place; a tuple -/
theorem seq_l {G : Gx} {H0 H : Hp} {δ : Env} {σ : L2.St} {o : Opd} {v : V} {xs : List D} (R : Rl G H0 H δ σ) (k : OpdOk G H0 σ o v) (e : rd δ o = some (.list xs)) :
    ∃ p ys, v = .ref p ∧ H p = some (.lst ys) ∧ InPlace G H0 σ p xs (own? o) := by
  rcases R.rd k e with r | ⟨p, ys, ds', ed, ev, e1, e2⟩
  · cases r with
    | lst h1 h2 =>
      rename_i p ys
      refine ⟨p, ys, rfl, R.sub _ _ h1, ?_⟩
      cases o with
      | val d' => exact .lst h1 h2
      | «at» i => exact k
  · cases ed
    subst ev
    refine ⟨p, ys, rfl, e1, ?_⟩
    cases o with
    | val d' =>
      simp only [IP.rd, Option.some.injEq] at e
      subst e
      exact k
    | «at» i => exact k
theorem seq_t {G : Gx} {H0 H : Hp} {δ : Env} {σ : L2.St} {o : Opd} {v : V} {xs : List D} (R : Rl G H0 H δ σ) (k : OpdOk G H0 σ o v) (e : rd δ o = some (.tuple xs)) :
    ∃ p ys, v = .ref p ∧ SqT G.K H0 p ys ∧ RelAll G.K H0 ys xs := by
  rcases R.rd k e with r | ⟨p, ys, ds', ed, _⟩
  · cases r with
    | tup h1 h2 => exact ⟨_, _, rfl, h1, h2⟩
  · cases ed
variable {tg e e2 : Expr} {f g : Eo} {pos p : Pos}
/-- a list or a tuple -/
theorem xi_seq (he : XO X e f) : XI X tg e (iE f) := PI.or_ (pi_list he) (pi_tup he) fun σ H Rr ⟨G, H0, δ, xs, ow, δ', eK, R, e0, q⟩ => by
  simp only [iE, Option.bind_eq_some_iff, Option.map_eq_some_iff] at e0
  obtain ⟨⟨o, δ1⟩, e1, d, e2, ys, e3, e4⟩ := e0
  cases e4
  cases d with
  | list ds =>
    cases e3
    refine .inl ⟨G, H0, δ, o, δ1, eK, R, e1, fun v H0' H' R1 s1 k1 => ?_⟩
    obtain ⟨a, ys, rfl, h1, h2⟩ := seq_l R1 k1 e2
    exact ⟨a, rfl, ⟨ys, SqL.of h1⟩, by rw [← eK]; exact q _ _ _ R1 s1 (iw_list h2)⟩
  | tuple ds =>
    cases e3
    refine .inr ⟨G, H0, δ, o, δ1, eK, R, e1, fun v H0' H' R1 s1 k1 => ?_⟩
    obtain ⟨a, ys, rfl, h1, h2⟩ := seq_t R1 k1 e2
    exact ⟨a, rfl, ⟨ys, by rw [← eK]; exact SqT.sub R1.sub h1⟩, by rw [← eK]; exact q _ _ _ R1 s1 (iw_tup h1 h2)⟩
  | _ => cases e3
theorem rangeD_get {lo : Int} {n i : Nat} (h : i < n) : (rangeD lo n)[i]? = some (.int (lo + (i : Nat))) := by
  unfold rangeD
  simp [h]
theorem rangeD_length (lo : Int) (n : Nat) : (rangeD lo n).length = n := by
  unfold rangeD
  simp
theorem iw_range {G : Gx} {H0 : Hp} {σ : L2.St} {lo : Int} {n : Nat} : IW G H0 σ (Itr lo n) (rangeD lo n) none where
  goes := fun i A H δ τ R s hk st hi => by
    rw [rangeD_length] at hi
    exact hi
  stops := fun A H δ τ R s hk st => by
    rw [rangeD_length]
    exact Nat.le_refl n
  yields := fun i A H δ τ x H' R s hk st hi y => by
    obtain ⟨rfl, rfl⟩ := y
    rw [rangeD_length] at hi
    exact ⟨A, _, R, Sub.refl _, Sub.refl _, Fro.refl, rangeD_get hi, .int _⟩
theorem xi_range1 (hg : Gl X "range") (hm : X.mg "range" = none) (ha : XO X e f) (hs : starEach [e] X.env = (false, eval e X.env) :: starEach [] X.env := by rfl) : XI X tg (.Call (.Name "range" p) [e] [] pos) (iRange1 f) :=
  (pi_range1 hg hm (pa_cons ha pa_nil hs) hs).weak fun σ H Rr ⟨G, H0, δ, xs, ow, δ', eK, R, e0, q⟩ => by
    simp only [iRange1, Option.bind_eq_some_iff] at e0
    obtain ⟨⟨o, δ1⟩, e1, e2⟩ := e0
    refine ⟨G, H0, δ, o, δ1, eK, R, e1, fun v H0' H' R1 s1 k1 => ?_⟩
    cases o with
    | «at» i => cases e2
    | val d =>
      cases d with
      | int j =>
        dsimp only at e2
        split at e2
        · rename_i hj
          cases e2
          cases k1
          exact ⟨j, rfl, hj.1, hj.2, q _ _ _ R1 s1 iw_range⟩
        · cases e2
      | _ => cases e2
theorem xi_range2 (hg : Gl X "range") (hm : X.mg "range" = none) (ha : XO X e f) (hb : XO X e2 g) (hs : starEach [e, e2] X.env = (false, eval e X.env) :: starEach [e2] X.env := by rfl) (hs2 : starEach [e2] X.env = (false, eval e2 X.env) :: starEach [] X.env := by rfl) : XI X tg (.Call (.Name "range" p) [e, e2] [] pos) (iRange2 f g) :=
  (pi_range2 hg hm (pa_cons ha (pa_cons hb pa_nil hs2) hs) (by rw [hs, hs2]; rfl) hs2).weak fun σ H Rr ⟨G, H0, δ, xs, ow, δ', eK, R, e0, q⟩ => by
    simp only [iRange2, Option.bind_eq_some_iff] at e0
    obtain ⟨⟨o, δ1⟩, e1, ⟨o2, δ2⟩, e2, e3⟩ := e0
    refine ⟨G, H0, δ, o, δ1, eK, R, e1, fun v H0' H' R1 s1 k1 => ?_⟩
    refine ⟨G, H0', δ1, o2, δ2, eK, R1, e2, fun w A' B' R2 s2 k2 => ?_⟩
    cases o with
    | «at» i => cases e3
    | val d =>
      cases d with
      | int j =>
        cases o2 with
        | «at» i => cases e3
        | val d =>
          cases d with
          | int l =>
            dsimp only at e3
            split at e3
            · rename_i hj
              cases e3
              cases k1
              cases k2
              exact ⟨j, l, rfl, hj, q _ _ _ R2 (s1.trans s2) iw_range⟩
            · cases e3
          | _ => cases e3
      | _ => cases e3

/-! ### for -/
theorem forGo_drop {g : Tg} {b : Es} {xs : List D} {i : Nat} (h : i < xs.length) : xs.drop i = xs[i] :: xs.drop (i + 1) := List.drop_eq_getElem_cons h
theorem x_for {g : TG} {t : Tg} {b : Es} {body : List Stmt} {it : Ei} (hp : PassesOwn (model X.prog X.w) X.A X.env X.xe) (hc : X.calm = true) (hi : XI X tg e it) (hg : PG X tg g) (gs : GS X.K g t) (hb : XB X body b) (hs : ∀ x, foldedSetIterable e X.env x = pure x := by intro _; rfl) : XS X (.For tg e body [] pos) (sFor it t b) := by
  refine PS.weak (ps_for hp hc hi hg hb hs) fun D σ H ⟨G, H0, δ, o, δ', eK, R, e0, q⟩ => ?_
  simp only [sFor, Option.bind_eq_some_iff] at e0
  obtain ⟨⟨⟨xs, ow⟩, δ1⟩, e1, e2⟩ := e0
  dsimp only at e2
  split at e2
  · rename_i how
    subst how
    refine ⟨G, H0, δ, xs, none, δ1, eK, R, e1, fun J H0' H' R1 s1 iw => ?_⟩
    have st : ∀ δ, still δ xs none = true := fun _ => rfl
    let YY : Nat → Hp → V → Hp → Prop := fun i H x H' => J.yld i H x H'
    let GG : Hp → Prop := fun H => ∃ A δ τ, Rl G A H δ τ ∧ Sub H0' A
    have w : Walk J xs.length GG YY := ⟨fun i H hi ⟨A, δ, τ, R, s⟩ => iw.goes i A H δ τ R s (fun k h => nomatch h) (st _) hi, fun H ⟨A, δ, τ, R, s⟩ => iw.stops A H δ τ R s (fun k h => nomatch h) (st _), fun i H x H' _ _ y => y⟩
    refine for_it w (fun i τ H => (∃ A δ, Rl G A H δ τ ∧ Sub H0' A ∧ forGo t b (xs.drop i) δ = some (o, δ')) ∨ ((∃ A δ, Rl G A H δ τ ∧ Sub H0' A) ∧ False)) (.inl ⟨H0', δ1, R1, Sub.refl _, e2⟩) ?_ ?_ ?_
    · rintro i τ H _ (⟨A, δ, R2, s2, _⟩ | ⟨_, h⟩)
      · exact ⟨A, δ, τ, R2, s2⟩
      · exact h.elim
    · rintro i x τ H H'' hi (⟨A, δ, R2, s2, e3⟩ | ⟨_, h⟩) y
      · obtain ⟨B, d, R3, s3, _, _, e4, r⟩ := iw.yields i A H δ τ x H'' R2 s2 (fun k h => nomatch h) (st _) hi y
        rw [List.drop_eq_getElem_cons hi] at e3
        have ed : xs[i] = d := by
          rw [List.getElem?_eq_getElem hi] at e4
          exact Option.some.inj e4
        rw [ed] at e3
        simp only [forGo, Option.bind_eq_some_iff] at e3
        obtain ⟨δ2, e5, ⟨o2, δ3⟩, e6, e7⟩ := e3
        refine gs G B H'' δ δ2 τ x d eK R3 r e5 _ fun τ2 R4 _ => ?_
        refine ⟨G, B, δ2, o2, δ3, eK, R4, e6, fun τ3 A3 H3 R5 s5 => ?_⟩
        have s6 : Sub H0' A3 := (s2.trans s3).trans s5
        cases o2 with
        | nx => exact .inl ⟨A3, δ3, R5, s6, e7⟩
        | ct => exact .inl ⟨A3, δ3, R5, s6, e7⟩
        | bk =>
          cases e7
          exact q τ3 A3 H3 R5 (s1.trans s6)
        | rt r =>
          cases e7
          exact q τ3 A3 H3 R5 (s1.trans s6)
      · exact h.elim
    · rintro τ H (⟨A, δ, R2, s2, e3⟩ | ⟨_, h⟩)
      · rw [List.drop_length] at e3
        cases e3
        exact q τ A H R2 (s1.trans s2)
      · exact h.elim
  · cases e2

/-! ### while -/
theorem x_while {c : Expr} {body : List Stmt} {t : Et} {b : Es} (hp : PassesOwn (model X.prog X.w) X.A X.env X.xe) (hc : XT X c t) (hb : XB X body b) : XS X (.While c body [] pos) (sWhile t b) := by
  refine PS.weak (ps_while hp hc hb) fun D σ H ⟨G, H0, δ, o, δ', eK, R, e0, q⟩ => ?_
  have e0' : whileGo t b turns δ = some (o, δ') := e0
  refine ⟨fun m τ H => ∃ A δ, Rl G A H δ τ ∧ Sub H0 A ∧ whileGo t b m δ = some (o, δ'), ⟨turns, H0, δ, R, Sub.refl _, e0'⟩, ?_⟩
  rintro m τ H ⟨A, δ, R2, s2, e1⟩
  cases m with
  | zero => cases e1
  | succ m =>
    simp only [whileGo, Option.bind_eq_some_iff] at e1
    obtain ⟨⟨k, δ1⟩, e2, e3⟩ := e1
    refine ⟨G, A, δ, k, δ1, eK, R2, e2, fun A1 H1 R3 s3 => ?_⟩
    cases k with
    | false =>
      cases e3
      exact iteF (q τ A1 H1 R3 (s2.trans s3))
    | true =>
      simp only [if_true, Option.bind_eq_some_iff] at e3
      obtain ⟨⟨o2, δ2⟩, e4, e5⟩ := e3
      refine iteT ⟨fun τ H => (∃ A δ, Rl G A H δ τ ∧ Sub H0 A ∧ whileGo t b m δ = some (o, δ')), fun τ H' h => ⟨m, Nat.lt_succ_self m, h⟩, ?_⟩
      refine ⟨G, A1, δ1, o2, δ2, eK, R3, e4, fun τ3 A3 H3 R5 s5 => ?_⟩
      have s6 : Sub H0 A3 := (s2.trans s3).trans s5
      cases o2 with
      | nx => exact ⟨A3, δ2, R5, s6, e5⟩
      | ct => exact ⟨A3, δ2, R5, s6, e5⟩
      | bk =>
        cases e5
        exact q τ3 A3 H3 R5 s6
      | rt r =>
        cases e5
        exact q τ3 A3 H3 R5 s6

/-! ### blocks and simple statements -/
theorem xb_nil : XB X [] sPass := pss_nil.weak fun D σ H ⟨G, H0, δ, o, δ', eK, R, e, q⟩ => by
  cases e
  exact q σ H0 H R (Sub.refl _)
theorem xb_cons {st : Stmt} {rest : List Stmt} {a b : Es} (h1 : XS X st a) (h2 : XB X rest b) : XB X (st :: rest) (sSeq a b) := (pss_cons h1 h2).weak fun D σ H ⟨G, H0, δ, o, δ', eK, R, e, q⟩ => by
  simp only [sSeq, Option.bind_eq_some_iff] at e
  obtain ⟨⟨o1, δ1⟩, e1, e2⟩ := e
  refine ⟨G, H0, δ, o1, δ1, eK, R, e1, fun τ A H1 R1 s1 => ?_⟩
  cases o1 with
  | nx => exact ⟨G, A, δ1, o, δ', eK, R1, e2, fun τ2 A2 H2 R2 s2 => q τ2 A2 H2 R2 (s1.trans s2)⟩
  | bk =>
    cases e2
    exact q τ A H1 R1 s1
  | ct =>
    cases e2
    exact q τ A H1 R1 s1
  | rt r =>
    cases e2
    exact q τ A H1 R1 s1
theorem xb_one {st : Stmt} {a : Es} (h1 : XS X st a) : XB X [st] a := pss_one h1
theorem xs_pass : XS X (.Pass pos) sPass := ps_pass.weak fun D σ H ⟨G, H0, δ, o, δ', eK, R, e, q⟩ => by
  cases e
  exact q σ H0 H R (Sub.refl _)
theorem xs_break : XS X (.Break pos) sBreak := ps_break.weak fun D σ H ⟨G, H0, δ, o, δ', eK, R, e, q⟩ => by
  cases e
  exact q σ H0 H R (Sub.refl _)
theorem xs_continue : XS X (.Continue pos) sCont := ps_continue.weak fun D σ H ⟨G, H0, δ, o, δ', eK, R, e, q⟩ => by
  cases e
  exact q σ H0 H R (Sub.refl _)
theorem xs_never {st : Stmt} : XS X st sNever := ps_never.weak fun D σ H ⟨G, H0, δ, o, δ', eK, R, e, q⟩ => by cases e
theorem xs_ret {a : Ev} (h : XV X e a) : XS X (.Return (some e) pos) (sRet a) := (ps_ret h).weak fun D σ H ⟨G, H0, δ, o, δ', eK, R, e, q⟩ => by
  simp only [sRet, Option.map_eq_some_iff] at e
  obtain ⟨⟨r, δ1⟩, e1, e2⟩ := e
  cases e2
  exact ⟨G, H0, δ, r, δ1, eK, R, e1, fun v A H1 R1 s1 k => q σ A H1 R1 s1 v k⟩
theorem xs_retN : XS X (.Return none pos) sRetN := ps_retN.weak fun D σ H ⟨G, H0, δ, o, δ', eK, R, e, q⟩ => by
  cases e
  exact q σ H0 H R (Sub.refl _) .non .non
theorem xs_if {c : Expr} {a b : List Stmt} {t : Et} {A B : Es} (hc : XT X c t) (ha : XB X a A) (hb : XB X b B) : XS X (.If c a b pos) (sIf t A B) := (ps_if hc ha hb).weak fun D σ H ⟨G, H0, δ, o, δ', eK, R, e, q⟩ => by
  simp only [sIf, Option.bind_eq_some_iff] at e
  obtain ⟨⟨k, δ1⟩, e1, e2⟩ := e
  refine ⟨G, H0, δ, k, δ1, eK, R, e1, fun A1 H1 R1 s1 => ?_⟩
  cases k with
  | true => exact iteT ⟨G, A1, δ1, o, δ', eK, R1, e2, fun τ2 A2 H2 R2 s2 => q τ2 A2 H2 R2 (s1.trans s2)⟩
  | false => exact iteF ⟨G, A1, δ1, o, δ', eK, R1, e2, fun τ2 A2 H2 R2 s2 => q τ2 A2 H2 R2 (s1.trans s2)⟩
theorem xs_ex {a : Ev} (h : XV X e a) (hs : swapsWith e none pos.line X.env = pure false := by rfl) : XS X (.Expr e pos) (sEx a) := (ps_expr h hs).weak fun D σ H ⟨G, H0, δ, o, δ', eK, R, e, q⟩ => by
  simp only [sEx, Option.map_eq_some_iff] at e
  obtain ⟨⟨r, δ1⟩, e1, e2⟩ := e
  cases e2
  exact ⟨G, H0, δ, r, δ1, eK, R, e1, fun v A H1 R1 s1 k => q σ A H1 R1 s1⟩
theorem setSlot_lt {δ δ' : Env} {i : Nat} {s : Slot} (h : setSlot δ i s = some δ') : i < δ.length := by
  unfold setSlot at h
  cases es : δ[i]? with
  | none =>
    rw [es] at h
    cases h
  | some s => exact (List.getElem?_eq_some_iff.mp es).1
/-- a result goes to a name -/
theorem Rl.store {G : Gx} {A H : Hp} {δ δ' : Env} {σ : L2.St} {i : Nat} {r : Res} {v : V} (R : Rl G A H δ σ) (k : ResOk G A H δ σ r v) (h : setSlot δ i (slotOf r) = some δ') : Rl G A H δ' (σ.set i (some v)) := by
  have hlt := setSlot_lt h
  rw [← R.len] at hlt
  cases r with
  | dat d => exact Rl.set R h ⟨v, List.getElem?_set_self hlt, k⟩ (fun ds z => nomatch z) (fun z => nomatch z)
  | new ds =>
    obtain ⟨p, vs, rfl, e1, e2, e3, e4, e5⟩ := k
    exact Rl.set R h ⟨p, vs, List.getElem?_set_self hlt, e1, e2, e3, e4⟩ (fun ds z => nomatch z) (fun _ q hq j => by
      cases hq
      exact e5 j)
theorem set_read {i : Nat} {a : Ev} {D : Ends} {σ : L2.St} {H : Hp} (h : kS K (sSet i a) D σ H) : tAsg (kE K a) (gName i) D σ H := by
  obtain ⟨G, H0, δ, o, δ', eK, R, e, q⟩ := h
  simp only [sSet, Option.bind_eq_some_iff, Option.map_eq_some_iff] at e
  obtain ⟨⟨r, δ1⟩, e1, δ2, e2, e3⟩ := e
  cases e3
  refine ⟨G, H0, δ, r, δ1, eK, R, e1, fun v A H1 R1 s1 k => ?_⟩
  exact q _ A H1 (R1.store k e2) s1
theorem xs_set {i : Nat} {x : Str} {a : Ev} {pos' : Pos} (hN : X.N.Nodup) (hi : X.N[i]? = some x) (hx : Loc X.env.scope x) (h : XV X e a) (hs : swapsWith e (some (.Name x pos')) pos.line X.env = pure false := by rfl)
    (hf : X.fn x = true ∨ X.env.scope.names.lookup x = some .local := by first | exact .inl rfl | exact .inr rfl | assumption) : XS X (.Assign [.Name x pos'] e pos) (sSet i a) := (ps_set hN hi hx h hs hf).weak fun _ _ _ h => set_read h
/-- a, b = e -/
theorem xs_unp {es : List Expr} {n : Nat} {t : TGs} {is : List Nat} {a : Ev} {j : Nat} {tp : Pos} (hg : PG X (.Tuple es j tp) (gTup X.K n t)) (hn : n = is.length) (gs : GSs X.K t is) (h : XV X e a) (hs : swapsWithSole [.Tuple es j tp] e pos.line X.env = pure false := by rfl) (hw : swappedStores [.Tuple es j tp] e X.env = pure none := by rfl)
    (h1 : (assignEach [.Tuple es j tp] X.env).map (·.2) = [assign (.Tuple es j tp) X.env] := by rfl) : XS X (.Assign [.Tuple es j tp] e pos) (sUnp is a) := (ps_asg h hg hs hw h1).weak fun D σ H ⟨G, H0, δ, o, δ', eK, R, e, q⟩ => by
  simp only [sUnp, Option.bind_eq_some_iff] at e
  obtain ⟨⟨r, δ1⟩, e1, e2⟩ := e
  refine ⟨G, H0, δ, r, δ1, eK, R, e1, fun v A H1 R1 s1 k => ?_⟩
  cases r with
  | new ds => cases e2
  | dat d =>
    cases d with
    | tuple ds =>
      simp only [Option.map_eq_some_iff] at e2
      obtain ⟨δ2, e3, e4⟩ := e2
      cases e4
      exact gs_tup hn gs G A H1 δ1 _ σ v _ eK R1 k e3 _ fun τ R2 _ => q τ A H1 R2 s1
    | _ => cases e2
/-- x.append(e) -/
theorem withOwn_at {G : Gx} {A H : Hp} {δ δ' : Env} {σ : L2.St} {i : Nat} {k : List D → Option (List D)} (R : Rl G A H δ σ) (h : withOwn δ i k = some δ') :
    ∃ p xs vs ys, σ[i]? = some (some (.ref p)) ∧ H p = some (.lst vs) ∧ RelAll G.K A vs xs ∧ k xs = some ys ∧ ∀ ws, RelAll G.K A ws ys → Rl G A (upd H p (.lst ws)) δ' σ := by
  unfold withOwn at h
  cases es : δ[i]? with
  | none =>
    rw [es] at h
    cases h
  | some s =>
    rw [es] at h
    have sj := R.slot i s es
    cases s with
    | own xs =>
      simp only [Option.map_eq_some_iff] at h
      obtain ⟨ys, e1, rfl⟩ := h
      obtain ⟨p, vs, x1, x2, x3, x4, x5⟩ := sj
      exact ⟨p, xs, vs, ys, x1, x2, x3, e1, fun ws hw => R.put es rfl x1 hw (.inl ⟨rfl, xs, rfl⟩)⟩
    | prm xs =>
      simp only [Option.map_eq_some_iff] at h
      obtain ⟨ys, e1, rfl⟩ := h
      obtain ⟨p, vs, x1, x0, x2, x3, x4⟩ := sj
      exact ⟨p, xs, vs, ys, x1, x2, x3, e1, fun ws hw => R.put es rfl x1 hw (.inr ⟨rfl, xs, rfl⟩)⟩
    | _ => cases h
/-- the slot's list as it stands before the arguments -/
theorem own_ref {G : Gx} {A H : Hp} {δ : Env} {σ : L2.St} {i : Nat} (R : Rl G A H δ σ) (h : ownAt δ i = true) : ∃ p vs, σ[i]? = some (some (.ref p)) ∧ H p = some (.lst vs) := by
  unfold ownAt at h
  cases es : δ[i]? with
  | none =>
    rw [es] at h
    cases h
  | some s =>
    rw [es] at h
    have sj := R.slot i s es
    cases s with
    | own ds =>
      obtain ⟨p, vs, h1, h2, _⟩ := sj
      exact ⟨p, vs, h1, h2⟩
    | prm ds =>
      obtain ⟨p, vs, h1, _, h2, _⟩ := sj
      exact ⟨p, vs, h1, h2⟩
    | _ => cases h
theorem xs_app {i : Nat} {y : Str} {py ap cp : Pos} {a : Ev} (hv : PE X (.Name y py) (tVar i)) (h : XV X e a)
    (hs : starEach [e] X.env = (false, eval e X.env) :: starEach [] X.env := by rfl)
    (hbase : attributeBase (.Name y py) "append" X.env (eval (.Name y py) X.env) = eval (.Name y py) X.env := by rfl)
    (hfew : ((backTo cp (starEach [e] X.env)).all (fun x => !x.1) && (backToKw cp (keywordEach [] X.env)).all (fun x => x.1.isSome)
      && decide ([e].length + ([] : List Keyword).length + (if ([] : List Keyword).isEmpty then 0 else 1) < 30)) = true := by rfl)
    (hline : (ap.endLine == cp.line) = true := by rfl) (hplain : (backTo cp (starEach [] X.env)).any (·.1) = false := by rfl) (hsw : swapsWith (.Call (.Attribute (.Name y py) "append" ap) [e] [] cp) none pos.line X.env = pure false := by rfl) :
    XS X (.Expr (.Call (.Attribute (.Name y py) "append" ap) [e] [] cp) pos) (sApp i a) :=
  (ps_expr (pe_bm PySem.F.plainAttrs_list PySem.F.slot_list_append PySem.F.type_list_append mt_append hv (pa_cons h pa_nil hs) hbase hfew hline hs hplain) hsw).weak fun D σ H ⟨G, H0, δ, o, δ', eK, R, e, q⟩ => by
    simp only [sApp, Option.bind_eq_some_iff, Option.map_eq_some_iff] at e
    obtain ⟨⟨r, δ1⟩, e1, δ2, e2, e3⟩ := e
    cases e3
    split at e1
    · rename_i ho
      obtain ⟨p, vs, hp, hl⟩ := own_ref R ho
      refine ⟨.ref p, hp, .inl ⟨rfl, vs, SqL.of hl⟩, G, H0, δ, r, δ1, eK, R, e1, fun v A H1 R1 s1 k => ?_⟩
      obtain ⟨A2, R2, s2, k2⟩ := R1.toD k
      obtain ⟨p', xs, ws, ys, x1, x2, x3, x4, x5⟩ := withOwn_at R2 e2
      rw [hp] at x1
      cases x1
      split at x4
      · rename_i hlen
        cases x4
        refine ⟨p, ws, v, rfl, rfl, x2, Nat.lt_of_lt_of_le (by rw [x3.length]; exact hlen) (line_le (Nat.le_refl _)), ?_⟩
        exact q σ A2 _ (x5 _ (x3.append (.cons k2 .nil))) (s1.trans s2)
      · cases x4
    · cases e1
/-- x.pop() -/
theorem xs_pop {i : Nat} {y : Str} {py ap cp : Pos} (hv : PE X (.Name y py) (tVar i))
    (hbase : attributeBase (.Name y py) "pop" X.env (eval (.Name y py) X.env) = eval (.Name y py) X.env := by rfl)
    (hline : (ap.endLine == cp.line) = true := by rfl) (hsw : swapsWith (.Call (.Attribute (.Name y py) "pop" ap) [] [] cp) none pos.line X.env = pure false := by rfl) :
    XS X (.Expr (.Call (.Attribute (.Name y py) "pop" ap) [] [] cp) pos) (sPop i) :=
  (ps_expr (pe_bm0 PySem.F.plainAttrs_list PySem.F.slot_list_pop PySem.F.type_list_pop mt_pop hv hbase hline) hsw).weak fun D σ H ⟨G, H0, δ, o, δ', eK, R, e, q⟩ => by
    simp only [sPop, Option.map_eq_some_iff] at e
    obtain ⟨δ2, e2, e3⟩ := e
    cases e3
    obtain ⟨p', xs, ws, ys, x1, x2, x3, x4, x5⟩ := withOwn_at R e2
    split at x4
    · cases x4
    · rename_i hne
      cases x4
      have hw : ∃ y, ws[ws.length - 1]? = some y := by
        have : 0 < ws.length := by
          rw [x3.length]
          cases xs with
          | nil => simp at hne
          | cons _ _ => simp
        exact ⟨ws[ws.length - 1]'(by omega), List.getElem?_eq_getElem (by omega)⟩
      obtain ⟨y, hy⟩ := hw
      refine ⟨.ref p', x1, .inl ⟨rfl, ws, SqL.of x2⟩, p', ws, y, rfl, rfl, x2, hy, ?_⟩
      exact q σ H0 _ (x5 _ x3.dropLast) (Sub.refl _)
/-- x[i] = e -/
theorem ixN_eq (n : Nat) (i : Int) : IP.ixN n i = L2.ixN n i := rfl
theorem xs_setIx {i : Nat} {y : Str} {py tp : Pos} {ie : Expr} {f g : Eo} (hv : PE X (.Name y py) (tVar i)) (hi : XO X ie g) (h : XO X e f)
    (ha : ∀ v, assign (.Subscript (.Name y py) ie tp) X.env v = (do
      let ov ← holding [v] (eval (.Name y py) X.env)
      let iv ← holding [v, ov] (eval ie X.env)
      standAt tp
      holding [v, ov, iv] (setItem ov iv v)
      release [v, ov, iv] []) := by intro _; rfl)
    (hs : swapsWithSole [.Subscript (.Name y py) ie tp] e pos.line X.env = pure false := by rfl) (hw : swappedStores [.Subscript (.Name y py) ie tp] e X.env = pure none := by rfl)
    (h1 : (assignEach [.Subscript (.Name y py) ie tp] X.env).map (·.2) = [assign (.Subscript (.Name y py) ie tp) X.env] := by rfl) :
    XS X (.Assign [.Subscript (.Name y py) ie tp] e pos) (sSetIx i g f) :=
  (ps_asg h (pg_sub hv hi set_list ha) hs hw h1).weak fun D σ H ⟨G, H0, δ, o, δ', eK, R, e, q⟩ => by
    simp only [sSetIx, Option.bind_eq_some_iff] at e
    obtain ⟨⟨o1, δ1⟩, e1, ⟨o2, δ2⟩, e2, e3⟩ := e
    refine ⟨G, H0, δ, o1, δ1, eK, R, e1, fun v A H1 R1 s1 k1 => ?_⟩
    split at e2
    · rename_i ho
      obtain ⟨p, vs, hp, hl⟩ := own_ref R1 ho
      refine ⟨.ref p, hp, G, A, δ1, o2, δ2, eK, R1, e2, fun w A2 H2 R2 s2 k2 => ?_⟩
      cases o1 with
      | «at» _ => cases e3
      | val d =>
        cases o2 with
        | «at» _ => cases e3
        | val d2 =>
          cases d2 with
          | int k =>
            simp only [Option.map_eq_some_iff] at e3
            obtain ⟨δ3, e4, e5⟩ := e3
            cases e5
            cases k2
            obtain ⟨p', xs, ws, ys, x1, x2, x3, x4, x5⟩ := withOwn_at R2 e4
            rw [hp] at x1
            cases x1
            simp only [Option.map_eq_some_iff] at x4
            obtain ⟨j, x6, x7⟩ := x4
            subst x7
            refine ⟨p, ws, k, j, rfl, rfl, x2, by rw [x3.length]; exact x6, ?_⟩
            exact q σ A2 _ (x5 _ (RelAll.set (Rel.sub s2 k1) j x3)) (s1.trans s2)
          | _ => cases e3
    · cases e2
/-- x op= e, of ints -/
theorem xs_aug {i : Nat} {x : Str} {op : Operator} {b : Int → Int → Int} {f : Eo} {pos' : Pos} (hN : X.N.Nodup) (hi : X.N[i]? = some x) (hx : Loc X.env.scope x) (h : XO X e f) (ho : PIp X op (ipI b))
    (hf : X.fn x = true ∨ X.env.scope.names.lookup x = some .local := by first | exact .inl rfl | exact .inr rfl | assumption) : XS X (.AugAssign (.Name x pos') op e pos) (sAug i b f) :=
  (ps_aug hN hi hx h ho hf).weak fun D σ H ⟨G, H0, δ, o, δ', eK, R, e, q⟩ => by
    unfold sAug at e
    cases es : δ[i]? with
    | none =>
      rw [es] at e
      cases e
    | some s =>
      rw [es] at e
      have sj := R.slot i s es
      cases s with
      | dat d =>
        cases d with
        | int a =>
          simp only [Option.bind_eq_some_iff] at e
          obtain ⟨⟨o1, δ1⟩, e1, e2⟩ := e
          obtain ⟨v, x1, x2⟩ := sj
          cases x2
          refine ⟨_, x1, G, H0, δ, o1, δ1, eK, R, e1, fun w A H1 R1 s1 k1 => ?_⟩
          cases o1 with
          | «at» _ => cases e2
          | val d =>
            cases d with
            | int c =>
              simp only [Option.map_eq_some_iff] at e2
              obtain ⟨δ2, e3, e4⟩ := e2
              cases e4
              cases k1
              exact ⟨a, c, rfl, rfl, q _ A H1 (R1.store (r := .dat (.int (b a c))) (v := .int (b a c)) (.int _) e3) s1⟩
            | _ => cases e2
        | _ => cases e
      | _ => cases e
end
end IP
end
section
set_option Elab.async false
set_option linter.all false
set_option maxRecDepth 100000
set_option maxHeartbeats 2000000
namespace IP
open PySem L2
/-! ### a new list that nobody names yet stays as it is: it is taken for a thing of the entry -/
section
variable {G : Gx} {A B H H' : Hp} {δ δ' : Env} {σ : L2.St} {p : Addr} {vs : List V}
def Gx.with (G : Gx) (p : Addr) (vs : List V) : Gx := { G with H := upd G.H p (.lst vs) }
theorem Rl.hold (R : Rl G A H δ σ) (h1 : H p = some (.lst vs)) (h2 : A p = none) (h3 : G.H p = none) (h4 : ∀ i, ¬ Holds δ σ i p) : Rl (G.with p vs) A H δ σ := by
  refine ⟨R.len, R.sub, R.up, fun a o e h => ?_, fun a o e => ?_, fun i s e => ?_, R.inj, R.prs⟩
  · have e' : upd G.H p (.lst vs) a = some o := e
    by_cases ha : a = p
    · subst ha
      rw [upd_same] at e'
      cases e'
      exact h1
    · rw [upd_ne ha] at e'
      exact R.keep a o e' h
  · rcases R.fro a o e with h | h
    · exact .inl h
    · refine .inr ?_
      have ha : a ≠ p := fun z => by
        rw [z, h2] at e
        cases e
      show upd G.H p (.lst vs) a = none
      rw [upd_ne ha]
      exact h
  · have sj := R.slot i s e
    cases s with
    | own ds =>
      obtain ⟨q, ws, e1, e2, e3, e4, e5⟩ := sj
      refine ⟨q, ws, e1, e2, e3, e4, ?_⟩
      have hq : q ≠ p := fun z => by
        subst z
        exact h4 i ⟨⟨_, e, rfl⟩, e1⟩
      show upd G.H p (.lst vs) q = none
      rw [upd_ne hq]
      exact e5
    | _ => exact sj
structure Held (G : Gx) (A H : Hp) (δ : Env) (σ : L2.St) (p : Addr) (vs : List V) : Prop where
  at_ : H p = some (.lst vs)
  a : A p = none
  g : G.H p = none
  h : ∀ i, ¬ Holds δ σ i p
/-- and is found again -/
theorem Rl.found (R0 : Rl G A H δ σ) (h : Held G A H δ σ p vs) {σ' : L2.St} (R : Rl (G.with p vs) B H' δ' σ') : Rl G B H' δ' σ' ∧ Held G B H' δ' σ' p vs := by
  have hp : H' p = some (.lst vs) := R.keep p (.lst vs) upd_same fun z hz e => by
    obtain ⟨ds, e1, e2⟩ := R0.prs z hz
    rw [e] at e2
    exact h.h z.1 ⟨⟨_, e1, rfl⟩, e2⟩
  have hB : B p = none := by
    cases q : B p with
    | none => rfl
    | some o =>
      rcases R.fro p o q with ⟨u, hu⟩ | hu
      · have := R0.up p u hu
        rw [h.a] at this
        cases this
      · have hu' : upd G.H p (.lst vs) p = none := hu
        rw [upd_same] at hu'
        cases hu'
  refine ⟨⟨R.len, R.sub, R.up, fun a o e hh => R.keep a o ?_ hh, fun a o e => ?_, fun i s e => ?_, R.inj, R.prs⟩, hp, hB, h.g, fun i hi => ?_⟩
  · have ha : a ≠ p := fun z => by
      rw [z, h.g] at e
      cases e
    show upd G.H p (.lst vs) a = some o
    rw [upd_ne ha]
    exact e
  · rcases R.fro a o e with z | z
    · exact .inl z
    · refine .inr ?_
      have z' : upd G.H p (.lst vs) a = none := z
      by_cases ha : a = p
      · subst ha
        exact h.g
      · rw [upd_ne ha] at z'
        exact z'
  · have sj := R.slot i s e
    cases s with
    | own ds =>
      obtain ⟨q, ws, e1, e2, e3, e4, e5⟩ := sj
      refine ⟨q, ws, e1, e2, e3, e4, ?_⟩
      have e5' : upd G.H p (.lst vs) q = none := e5
      by_cases hq : q = p
      · subst hq
        exact h.g
      · rw [upd_ne hq] at e5'
        exact e5'
    | _ => exact sj
  · obtain ⟨⟨s, e1, e2⟩, e3⟩ := hi
    have sj := R.slot i s e1
    cases s with
    | own ds =>
      obtain ⟨q, ws, x1, _, _, _, x5⟩ := sj
      rw [e3] at x1
      cases x1
      have x5' : upd G.H p (.lst vs) p = none := x5
      rw [upd_same] at x5'
      cases x5'
    | prm ds =>
      obtain ⟨q, ws, x1, x0, _⟩ := sj
      rw [e3] at x1
      cases x1
      obtain ⟨es, y1, y2⟩ := R0.prs _ x0
      exact h.h i ⟨⟨_, y1, rfl⟩, y2⟩
    | _ => cases e2
end

/-! ### several values at once -/
def Pend (G : Gx) (A H : Hp) (δ : Env) (σ : L2.St) : List Res → List V → Prop
  | [], [] => True
  | r :: rs, v :: vs => ResOk G A H δ σ r v ∧ Pend G A H δ σ rs vs ∧ (∀ ds, r = .new ds → ∀ p, v = .ref p → ∀ r' v', (r', v') ∈ rs.zip vs → ∀ es, r' = .new es → v' ≠ .ref p)
  | _, _ => False
def kR (K : PySem.W.Frag) (fs : List Ev) : TA := fun σ H Q => ∃ G H0 δ rs δ', G.K = K ∧ Rl G H0 H δ σ ∧ pEvs fs δ = some (rs, δ') ∧ ∀ vs H0' H', Rl G H0' H' δ' σ → Sub H0 H0' → Pend G H0' H' δ' σ rs vs → Q vs H'
section
variable {X : Cx} {K : PySem.W.Frag} {a : Expr} {es : List Expr} {f : Ev} {fs : List Ev} {pos : Pos}
theorem xr_nil : PA X [] (kR X.K []) := pa_nil.weak fun σ H Q ⟨G, H0, δ, res, δ', eK, R, e, q⟩ => by
  cases e
  exact q [] _ _ R (Sub.refl _) trivial
theorem pend_found {G : Gx} {B H' : Hp} {δ' : Env} {σ : L2.St} {p : Addr} {vs : List V} (Rb : Rl G B H' δ' σ) : ∀ {rs : List Res} {us : List V}, Pend (G.with p vs) B H' δ' σ rs us → G.H p = none → Pend G B H' δ' σ rs us ∧ ∀ r' v', (r', v') ∈ rs.zip us → ∀ es, r' = .new es → v' ≠ .ref p
  | [], [], _, _ => ⟨trivial, fun _ _ h => by simp at h⟩
  | r :: rs, u :: us, ⟨h1, h2, h3⟩, hg => by
    obtain ⟨i1, i2⟩ := pend_found Rb h2 hg
    have hr : ResOk G B H' δ' σ r u ∧ ∀ es, r = .new es → u ≠ .ref p := by
      cases r with
      | dat d => exact ⟨h1, fun _ z => nomatch z⟩
      | new ds =>
        obtain ⟨q, ws, x1, x2, x3, x4, x5, x6⟩ := h1
        have x5' : upd G.H p (.lst vs) q = none := x5
        have hq : q ≠ p := fun z => by
          rw [z, upd_same] at x5'
          cases x5'
        rw [upd_ne hq] at x5'
        exact ⟨⟨q, ws, x1, x2, x3, x4, x5', x6⟩, fun _ _ z => by
          rw [x1] at z
          cases z
          exact hq rfl⟩
    refine ⟨⟨hr.1, i1, h3⟩, fun r' v' hm es he => ?_⟩
    rw [List.zip_cons_cons] at hm
    rcases List.mem_cons.mp hm with e | e
    · cases e
      exact hr.2 es he
    · exact i2 r' v' e es he
theorem xr_cons (ha : XV X a f) (hb : PA X es (kR X.K fs)) (hs : starEach (a :: es) X.env = (false, eval a X.env) :: starEach es X.env := by rfl) : PA X (a :: es) (kR X.K (f :: fs)) := (pa_cons ha hb hs).weak fun σ H Q ⟨G, H0, δ, res, δ', eK, R, e, q⟩ => by
  simp only [pEvs, Option.bind_eq_some_iff, Option.map_eq_some_iff] at e
  obtain ⟨⟨r1, δ1⟩, e1, ⟨rs, δ2⟩, e2, e3⟩ := e
  cases e3
  refine ⟨G, H0, δ, r1, δ1, eK, R, e1, fun v A H1 R1 s1 k1 => ?_⟩
  cases r1 with
  | dat d => exact ⟨G, A, δ1, rs, δ2, eK, R1, e2, fun vs B H2 R2 s2 k2 => q _ B H2 R2 (s1.trans s2) ⟨Rel.sub s2 k1, k2, fun _ z => nomatch z⟩⟩
  | new ds =>
    obtain ⟨p, ws, rfl, x2, x3, x4, x5, x6⟩ := k1
    refine ⟨G.with p ws, A, δ1, rs, δ2, eK, R1.hold x2 x4 x5 x6, e2, fun vs B H2 R2 s2 k2 => ?_⟩
    obtain ⟨R3, hh⟩ := R1.found ⟨x2, x4, x5, x6⟩ R2
    obtain ⟨k3, k4⟩ := pend_found R3 k2 x5
    exact q _ B H2 R3 (s1.trans s2) ⟨⟨p, ws, rfl, hh.at_, x3.sub s2, hh.a, hh.g, hh.h⟩, k3, fun _ _ p' e r' v' hm es he => by
      cases e
      exact k4 r' v' hm es he⟩
def setAll (σ : L2.St) : List Nat → List V → L2.St
  | i :: is, v :: vs => setAll (σ.set i (some v)) is vs
  | _, _ => σ
theorem pend_mono {G : Gx} {A H : Hp} {δ δ' : Env} {σ σ' : L2.St} : ∀ {rs : List Res} {vs : List V}, Pend G A H δ σ rs vs → (∀ r v, (r, v) ∈ rs.zip vs → ∀ ds, r = .new ds → ∀ p, v = .ref p → ∀ i, Holds δ' σ' i p → Holds δ σ i p) → Pend G A H δ' σ' rs vs
  | [], [], _, _ => trivial
  | r :: rs, v :: vs, ⟨h1, h2, h3⟩, k => by
    refine ⟨?_, pend_mono h2 (fun r' v' hm => k r' v' (by rw [List.zip_cons_cons]; exact List.mem_cons_of_mem _ hm)), h3⟩
    cases r with
    | dat d => exact h1
    | new ds =>
      obtain ⟨q, ws, x1, x2, x3, x4, x5, x6⟩ := h1
      exact ⟨q, ws, x1, x2, x3, x4, x5, fun i hi => x6 i (k _ _ (by rw [List.zip_cons_cons]; exact List.mem_cons_self) ds rfl q x1 i hi)⟩
theorem Rl.storeAll {G : Gx} {A H : Hp} {δ' : Env} : ∀ {is : List Nat} {rs : List Res} {vs : List V} {δ : Env} {σ : L2.St}, Rl G A H δ σ → Pend G A H δ σ rs vs → setRs δ is rs = some δ' → Rl G A H δ' (setAll σ is vs)
  | [], [], [], _, _, R, _, e => by
    cases e
    exact R
  | [], [], _ :: _, _, _, _, h, _ => h.elim
  | [], _ :: _, _, _, _, _, _, e => by cases e
  | _ :: _, [], _, _, _, _, _, e => by cases e
  | _ :: _, _ :: _, [], _, _, _, h, _ => h.elim
  | i :: is, r :: rs, v :: vs, δ, σ, R, ⟨h1, h2, h3⟩, e => by
    simp only [setRs, Option.bind_eq_some_iff] at e
    obtain ⟨δ1, e1, e2⟩ := e
    have R1 := R.store h1 e1
    show Rl G A H δ' (setAll (σ.set i (some v)) is vs)
    refine Rl.storeAll R1 (pend_mono h2 fun r' v' hm ds he p hp j hj => ?_) e2
    obtain ⟨⟨u, u1, u2⟩, u3⟩ := hj
    have hlt := setSlot_lt e1
    have ed : δ1 = δ.set i (slotOf r) := by
      unfold setSlot at e1
      split at e1
      · cases e1
      · cases e1
        rfl
      · cases e1
    by_cases hij : i = j
    · subst hij
      rw [List.getElem?_set_self (by rw [R.len]; exact hlt)] at u3
      cases u3
      rw [ed, List.getElem?_set_self hlt] at u1
      cases u1
      cases r with
      | dat d => cases u2
      | new es => exact absurd hp (h3 es rfl p rfl r' v' hm ds he)
    · rw [List.getElem?_set_ne hij] at u3
      rw [ed, List.getElem?_set_ne hij] at u1
      exact ⟨⟨u, u1, u2⟩, u3⟩
theorem pend_length {G : Gx} {A H : Hp} {δ : Env} {σ : L2.St} : ∀ {rs : List Res} {vs : List V}, Pend G A H δ σ rs vs → rs.length = vs.length
  | [], [], _ => rfl
  | _ :: _, _ :: _, ⟨_, h, _⟩ => by rw [List.length_cons, List.length_cons, pend_length h]
  | [], _ :: _, h => h.elim
  | _ :: _, [], h => h.elim
theorem pEvs_length : ∀ {fs : List Ev} {δ δ' : Env} {rs : List Res}, pEvs fs δ = some (rs, δ') → rs.length = fs.length
  | [], _, _, _, e => by
    cases e
    rfl
  | f :: fs, _, _, _, e => by
    simp only [pEvs, Option.bind_eq_some_iff, Option.map_eq_some_iff] at e
    obtain ⟨_, _, ⟨_, _⟩, e2, e3⟩ := e
    cases e3
    rw [List.length_cons, List.length_cons, pEvs_length e2]
/-- a, b = e1, e2 -/
theorem xs_par {i j : Nat} {x y : Str} {b : Expr} {g : Ev} {px py pt : Pos} {kt k2 : Nat} {pt2 : Pos} (hc : X.calm = true) (hN : X.N.Nodup) (hi : X.N[i]? = some x) (hj : X.N[j]? = some y) (hij : i ≠ j)
    (hx : X.env.scope.names.lookup x = some .local) (hy : X.env.scope.names.lookup y = some .local) (ha : XV X a f) (hb : XV X b g)
    (hw : swappedStores [.Tuple [.Name x px, .Name y py] kt pt] (.Tuple [a, b] k2 pt2) X.env = pure (some [x, y]))
    (hs : swapsWithSole [.Tuple [.Name x px, .Name y py] kt pt] (.Tuple [a, b] k2 pt2) pos.line X.env = pure false := by rfl) (hs1 : starEach [a, b] X.env = (false, eval a X.env) :: starEach [b] X.env := by rfl) (hs2 : starEach [b] X.env = (false, eval b X.env) :: starEach [] X.env := by rfl) :
    XS X (.Assign [.Tuple [.Name x px, .Name y py] kt pt] (.Tuple [a, b] k2 pt2) pos) (sPar [i, j] [f, g]) :=
  (ps_par hc hN hi hj hij hx hy (xr_cons ha (xr_cons hb xr_nil hs2) hs1) hw hs).weak fun D σ H ⟨G, H0, δ, o, δ', eK, R, e, q⟩ => by
    simp only [sPar, Option.bind_eq_some_iff, Option.map_eq_some_iff] at e
    obtain ⟨⟨rs, δ1⟩, e1, δ2, e2, e3⟩ := e
    cases e3
    refine ⟨G, H0, δ, rs, δ1, eK, R, e1, fun vs A H1 R1 s1 k => ?_⟩
    have hl := pend_length k
    rw [pEvs_length e1] at hl
    match vs, hl, k with
    | [v, w], _, k => exact ⟨v, w, rfl, q _ A H1 (Rl.storeAll R1 k e2) s1⟩
theorem xs_par3 {i j l : Nat} {x y z : Str} {b c : Expr} {g h : Ev} {px py pz pt : Pos} {kt k2 : Nat} {pt2 : Pos} (hc : X.calm = true) (hN : X.N.Nodup) (hi : X.N[i]? = some x) (hj : X.N[j]? = some y) (hl : X.N[l]? = some z) (hij : i ≠ j) (hil : i ≠ l) (hjl : j ≠ l)
    (hx : X.env.scope.names.lookup x = some .local) (hy : X.env.scope.names.lookup y = some .local) (hz : X.env.scope.names.lookup z = some .local) (ha : XV X a f) (hb : XV X b g) (hcc : XV X c h)
    (hw : swappedStores [.Tuple [.Name x px, .Name y py, .Name z pz] kt pt] (.Tuple [a, b, c] k2 pt2) X.env = pure (some [x, y, z]))
    (hs : swapsWithSole [.Tuple [.Name x px, .Name y py, .Name z pz] kt pt] (.Tuple [a, b, c] k2 pt2) pos.line X.env = pure false := by rfl) (hs1 : starEach [a, b, c] X.env = (false, eval a X.env) :: starEach [b, c] X.env := by rfl) (hs2 : starEach [b, c] X.env = (false, eval b X.env) :: starEach [c] X.env := by rfl) (hs3 : starEach [c] X.env = (false, eval c X.env) :: starEach [] X.env := by rfl) :
    XS X (.Assign [.Tuple [.Name x px, .Name y py, .Name z pz] kt pt] (.Tuple [a, b, c] k2 pt2) pos) (sPar [i, j, l] [f, g, h]) :=
  (ps_par3 hc hN hi hj hl hij hil hjl hx hy hz (xr_cons ha (xr_cons hb (xr_cons hcc xr_nil hs3) hs2) hs1) hw hs).weak fun D σ H ⟨G, H0, δ, o, δ', eK, R, e, q⟩ => by
    simp only [sPar, Option.bind_eq_some_iff, Option.map_eq_some_iff] at e
    obtain ⟨⟨rs, δ1⟩, e1, δ2, e2, e3⟩ := e
    cases e3
    refine ⟨G, H0, δ, rs, δ1, eK, R, e1, fun vs A H1 R1 s1 k => ?_⟩
    have hl := pend_length k
    rw [pEvs_length e1] at hl
    match vs, hl, k with
    | [u, v, w], _, k => exact ⟨u, v, w, rfl, q _ A H1 (Rl.storeAll R1 k e2) s1⟩
end

/-! ### comprehensions -/
section
variable {G : Gx} {A H : Hp} {δ δ' δ0 : Env} {σ : L2.St}
theorem wipe_other {σ : L2.St} {i : Nat} : ∀ {vs : List Nat}, i ∉ vs → (wipe σ vs)[i]? = σ[i]?
  | [], _ => rfl
  | v :: vs, h => by
    simp only [List.mem_cons, not_or] at h
    unfold wipe
    rw [List.getElem?_set_ne (fun e => h.1 e.symm), wipe_other h.2]
theorem unAll_spec : ∀ {vs : List Nat} {δ δ' : Env}, unAll vs δ = some δ' → δ'.length = δ.length ∧ (∀ i, i ∈ vs → δ'[i]? = some .un) ∧ (∀ i, i ∉ vs → δ'[i]? = δ[i]?) ∧ (∀ i, i ∈ vs → δ[i]? = some .un ∨ ∃ d, δ[i]? = some (.dat d))
  | [], δ, δ', e => by
    cases e
    simp
  | v :: vs, δ, δ', e => by
    unfold unAll at e
    cases es : δ[v]? with
    | none =>
      rw [es] at e
      cases e
    | some s =>
      rw [es] at e
      have hlt : v < δ.length := (List.getElem?_eq_some_iff.mp es).1
      cases s with
      | un =>
        obtain ⟨h1, h2, h3, h4⟩ := unAll_spec e
        refine ⟨h1, fun i hi => ?_, fun i hi => h3 i fun z => hi (List.mem_cons_of_mem _ z), fun i hi => ?_⟩
        · rcases List.mem_cons.mp hi with z | z
          · subst z
            by_cases hv : i ∈ vs
            · exact h2 i hv
            · rw [h3 i hv]
              exact es
          · exact h2 i z
        · rcases List.mem_cons.mp hi with z | z
          · subst z
            exact .inl es
          · exact h4 i z
      | dat d =>
        obtain ⟨h1, h2, h3, h4⟩ := unAll_spec e
        refine ⟨by rw [h1, List.length_set], fun i hi => ?_, fun i hi => ?_, fun i hi => ?_⟩
        · rcases List.mem_cons.mp hi with z | z
          · subst z
            by_cases hv : i ∈ vs
            · exact h2 i hv
            · rw [h3 i hv]
              exact List.getElem?_set_self hlt
          · exact h2 i z
        · simp only [List.mem_cons, not_or] at hi
          rw [h3 i hi.2, List.getElem?_set_ne (fun z => hi.1 z.symm)]
        · rcases List.mem_cons.mp hi with z | z
          · subst z
            exact .inr ⟨d, es⟩
          · rcases h4 i z with h | ⟨d', h⟩
            · by_cases hvi : v = i
              · subst hvi
                exact .inr ⟨d, es⟩
              · rw [List.getElem?_set_ne hvi] at h
                exact .inl h
            · by_cases hvi : v = i
              · subst hvi
                exact .inr ⟨d, es⟩
              · rw [List.getElem?_set_ne hvi] at h
                exact .inr ⟨d', h⟩
      | _ => cases e
/-- names forgotten -/
theorem Rl.wipe {vs : List Nat} (R : Rl G A H δ σ) (e : unAll vs δ = some δ') : Rl G A H δ' (L2.wipe σ vs) := by
  obtain ⟨h1, h2, h3, h4⟩ := unAll_spec e
  have back : ∀ j q, Holds δ' (L2.wipe σ vs) j q → Holds δ σ j q := fun j q ⟨⟨s, s1, s2⟩, s3⟩ => by
    by_cases hj : j ∈ vs
    · rw [h2 j hj] at s1
      cases s1
      cases s2
    · rw [h3 j hj] at s1
      rw [wipe_other hj] at s3
      exact ⟨⟨s, s1, s2⟩, s3⟩
  refine ⟨by rw [wipe_length, h1]; exact R.len, R.sub, R.up, R.keep, R.fro, fun i s es => ?_, fun i j p a b => R.inj i j p (back _ _ a) (back _ _ b), fun z hz => ?_⟩
  · by_cases hi : i ∈ vs
    · rw [h2 i hi] at es
      cases es
      trivial
    · rw [h3 i hi] at es
      have sj := R.slot i s es
      cases s with
      | un => trivial
      | dat d =>
        obtain ⟨v, e1, r⟩ := sj
        exact ⟨v, by rw [wipe_other hi]; exact e1, r⟩
      | own ds =>
        obtain ⟨q, ws, e1, r⟩ := sj
        exact ⟨q, ws, by rw [wipe_other hi]; exact e1, r⟩
      | prm ds =>
        obtain ⟨q, ws, e1, r⟩ := sj
        exact ⟨q, ws, by rw [wipe_other hi]; exact e1, r⟩
  · obtain ⟨ds, e1, e2⟩ := R.prs z hz
    have hn : z.1 ∉ vs := fun h => by
      rcases h4 _ h with q | ⟨d, q⟩
      · rw [q] at e1
        cases e1
      · rw [q] at e1
        cases e1
    exact ⟨ds, by rw [h3 _ hn]; exact e1, by rw [wipe_other hn]; exact e2⟩
theorem backAll_spec : ∀ {vs : List Nat} {δ : Env}, δ.length = δ0.length → (backAll δ0 vs δ).length = δ.length ∧ (∀ i, i ∈ vs → (backAll δ0 vs δ)[i]? = δ0[i]?) ∧ (∀ i, i ∉ vs → (backAll δ0 vs δ)[i]? = δ[i]?)
  | [], δ, _ => by simp [backAll]
  | v :: vs, δ, hl => by
    unfold backAll
    cases es : δ0[v]? with
    | none =>
      obtain ⟨h1, h2, h3⟩ := backAll_spec (vs := vs) (δ := δ) hl
      refine ⟨h1, fun i hi => ?_, fun i hi => h3 i fun z => hi (List.mem_cons_of_mem _ z)⟩
      rcases List.mem_cons.mp hi with z | z
      · subst z
        have n1 : ¬ i < δ0.length := fun z => by
          rw [List.getElem?_eq_getElem z] at es
          cases es
        show (backAll δ0 vs δ)[i]? = δ0[i]?
        rw [es]
        exact List.getElem?_eq_none (by omega)
      · exact h2 i z
    | some s =>
      have hlt : v < δ.length := by
        rw [hl]
        exact (List.getElem?_eq_some_iff.mp es).1
      obtain ⟨h1, h2, h3⟩ := backAll_spec (vs := vs) (δ := δ.set v s) (by rw [List.length_set]; exact hl)
      refine ⟨by rw [h1, List.length_set], fun i hi => ?_, fun i hi => ?_⟩
      · by_cases hv : i ∈ vs
        · exact h2 i hv
        · rcases List.mem_cons.mp hi with z | z
          · subst z
            show (backAll δ0 vs (δ.set i s))[i]? = _
            rw [h3 i hv, List.getElem?_set_self hlt, es]
          · exact absurd z hv
      · simp only [List.mem_cons, not_or] at hi
        show (backAll δ0 vs (δ.set v s))[i]? = _
        rw [h3 i hi.2, List.getElem?_set_ne (fun z => hi.1 z.symm)]
theorem wipe_wipe (σ : L2.St) (vs : List Nat) : L2.wipe (L2.wipe σ vs) vs = L2.wipe σ vs := by
  apply List.ext_getElem?
  intro i
  by_cases hi : i ∈ vs
  · have key : ∀ (τ : L2.St) (vs : List Nat), i ∈ vs → (L2.wipe τ vs)[i]? = τ[i]?.map fun _ => none := by
      intro τ vs
      induction vs with
      | nil => intro h; simp at h
      | cons v vs ih =>
        intro h
        unfold L2.wipe
        by_cases hv : v = i
        · subst hv
          by_cases hl : v < τ.length
          · rw [List.getElem?_set_self (by rw [wipe_length]; exact hl), List.getElem?_eq_getElem hl]
            rfl
          · rw [List.getElem?_eq_none (by rw [List.length_set, wipe_length]; omega), List.getElem?_eq_none (by omega)]
            rfl
        · rw [List.getElem?_set_ne hv]
          rcases List.mem_cons.mp h with z | z
          · exact absurd z.symm hv
          · exact ih z
    rw [key _ _ hi, key _ _ hi]
    cases σ[i]? <;> rfl
  · rw [wipe_other hi]
/-- a held list is written -/
theorem Rl.relay {p : Addr} {vs ws : List V} (R : Rl G A H δ σ) (h1 : H p = some (.lst vs)) (h2 : A p = none) (h3 : G.H p = none) (h4 : ∀ i, ¬ Holds δ σ i p) : Rl G A (upd H p (.lst ws)) δ σ := by
  refine ⟨R.len, fun a o e => ?_, R.up, fun a o e h => ?_, R.fro, fun i s e => ?_, R.inj, R.prs⟩
  · rw [upd_ne (ne_of_none e h2)]
    exact R.sub a o e
  · rw [upd_ne (ne_of_none e h3)]
    exact R.keep a o e h
  · refine (R.slot i s e).mono (Sub.refl _) (fun a us ea hs ha => ?_) (fun _ _ _ h => h)
    have : a ≠ p := fun z => by
      subst z
      exact h4 i ⟨⟨s, e, hs⟩, ha⟩
    rw [upd_ne this]
    exact ea
theorem back_holds {A0 H0 : Hp} {vs : List Nat} {δ1 : Env} (R0 : Rl G A0 H0 δ0 σ) (e0 : unAll vs δ0 = some δ1) (R : Rl G A H δ (L2.wipe σ vs)) : ∀ j q, Holds (backAll δ0 vs δ) σ j q → Holds δ (L2.wipe σ vs) j q := fun j q ⟨⟨u, u1, u2⟩, u3⟩ => by
  obtain ⟨h1, h2, h3, h4⟩ := unAll_spec e0
  have hl : δ.length = δ0.length := by
    have := R.len
    rw [wipe_length, R0.len] at this
    exact this.symm
  obtain ⟨b1, b2, b3⟩ := backAll_spec (vs := vs) hl
  by_cases hj : j ∈ vs
  · rw [b2 j hj] at u1
    rcases h4 j hj with z | ⟨d, z⟩
    · rw [z] at u1
      cases u1
      cases u2
    · rw [z] at u1
      cases u1
      cases u2
  · rw [b3 j hj] at u1
    exact ⟨⟨u, u1, u2⟩, by rw [wipe_other hj]; exact u3⟩
/-- and remembered again -/
theorem Rl.back {A0 H0 : Hp} {vs : List Nat} {δ1 : Env} (R0 : Rl G A0 H0 δ0 σ) (e0 : unAll vs δ0 = some δ1) (s : Sub A0 A) (R : Rl G A H δ (L2.wipe σ vs)) : Rl G A H (backAll δ0 vs δ) σ := by
  obtain ⟨h1, h2, h3, h4⟩ := unAll_spec e0
  have hl : δ.length = δ0.length := by
    have := R.len
    rw [wipe_length, R0.len] at this
    exact this.symm
  obtain ⟨b1, b2, b3⟩ := backAll_spec (vs := vs) hl
  have fwd : ∀ j q, Holds (backAll δ0 vs δ) σ j q → Holds δ (L2.wipe σ vs) j q := fun j q ⟨⟨u, u1, u2⟩, u3⟩ => by
    by_cases hj : j ∈ vs
    · rw [b2 j hj] at u1
      rcases h4 j hj with z | ⟨d, z⟩
      · rw [z] at u1
        cases u1
        cases u2
      · rw [z] at u1
        cases u1
        cases u2
    · rw [b3 j hj] at u1
      exact ⟨⟨u, u1, u2⟩, by rw [wipe_other hj]; exact u3⟩
  refine ⟨by rw [b1, hl]; exact R0.len, R.sub, R.up, R.keep, R.fro, fun i u es => ?_, fun i j p a b => R.inj i j p (fwd _ _ a) (fwd _ _ b), fun z hz => ?_⟩
  · by_cases hi : i ∈ vs
    · rw [b2 i hi] at es
      rcases h4 i hi with z | ⟨d, z⟩
      · rw [z] at es
        cases es
        trivial
      · rw [z] at es
        cases es
        obtain ⟨v, e1, r⟩ := R0.slot i _ z
        exact ⟨v, e1, r.sub s⟩
    · rw [b3 i hi] at es
      have sj := R.slot i u es
      cases u with
      | un => trivial
      | dat d =>
        obtain ⟨v, e1, r⟩ := sj
        exact ⟨v, by rw [wipe_other hi] at e1; exact e1, r⟩
      | own ds =>
        obtain ⟨q, ws, e1, r⟩ := sj
        exact ⟨q, ws, by rw [wipe_other hi] at e1; exact e1, r⟩
      | prm ds =>
        obtain ⟨q, ws, e1, r⟩ := sj
        exact ⟨q, ws, by rw [wipe_other hi] at e1; exact e1, r⟩
  · obtain ⟨ds, e1, e2⟩ := R.prs z hz
    obtain ⟨ds', e3, e4⟩ := R0.prs z hz
    have hn : z.1 ∉ vs := fun h => by
      rcases h4 _ h with q | ⟨d, q⟩
      · rw [q] at e3
        cases e3
      · rw [q] at e3
        cases e3
    exact ⟨ds, by rw [b3 _ hn]; exact e1, e4⟩
end
section
variable {X : Cx} {K : PySem.W.Frag}
/-- the reading of a comprehension -/
theorem lc_read {it : Ei} {g : TG} {t : Tg} {tt : Et} {te : Ev} {vs : List Nat} (gs : GS K g t) (hv : ∀ i ∈ t.slots, i ∈ vs) {σ : L2.St} {H : Hp} {Q : VK} (h : kE K (vLc vs it t tt te) σ H Q) : tLc (kI K it) g (kT K tt) (kE K te) vs σ H Q := by
  obtain ⟨G, H0, δ, res, δ', eK, R, e, q⟩ := h
  simp only [vLc, Option.bind_eq_some_iff] at e
  obtain ⟨⟨⟨xs, ow⟩, δ1⟩, e1, δ2, e2, e3⟩ := e
  dsimp only at e2 e3
  split at e3
  · rename_i hlen
    simp only [Option.map_eq_some_iff] at e3
    obtain ⟨⟨ys, δ3⟩, e4, e5⟩ := e3
    cases e5
    refine ⟨G, H0, δ, xs, ow, δ1, eK, R, e1, fun J A H1 R1 s1 iw => ?_⟩
    intro D hD
    have fr := R1.fresh hD
    have R2 : Rl G A (upd H1 D (.lst [])) δ2 (wipe σ vs) := (R1.laid hD).wipe e2
    have hD2 : Held G A (upd H1 D (.lst [])) δ2 (wipe σ vs) D [] := ⟨upd_same, fr.1, fr.2.1, (by
      intro i hi
      have := ((R1.laid (o := .lst []) hD)).wipe e2
      obtain ⟨⟨s, x1, x2⟩, x3⟩ := hi
      obtain ⟨h1, h2, h3, h4⟩ := unAll_spec e2
      by_cases hj : i ∈ vs
      · rw [h2 i hj] at x1
        cases x1
        cases x2
      · rw [h3 i hj] at x1
        rw [wipe_other hj] at x3
        exact fr.2.2 i ⟨⟨s, x1, x2⟩, x3⟩)⟩
    -- the walked variable, if it is one, is not among the names of the comprehension
    have hk : ∀ {δ : Env} {A H : Hp}, Rl G A H δ (wipe σ vs) → (∀ i, i ∈ vs → δ[i]? = some .un) → still δ xs ow = true → ∀ k, ow = some k → (wipe σ vs)[k]? = σ[k]? := by
      intro δ A H R hun st k ek
      subst ek
      by_cases hj : k ∈ vs
      · simp only [still, hun k hj, slotD] at st
        cases st
      · exact wipe_other hj
    let P : Nat → Hp → Prop := fun i H => ∃ B δ acc accD zs, Rl G B H δ (wipe σ vs) ∧ Sub A B ∧ Held G B H δ (wipe σ vs) D acc ∧ RelAll G.K B acc accD ∧ (∀ i, i ∈ vs → δ[i]? = some .un) ∧ lcGo vs t tt te xs ow (xs.drop i) δ = some (zs, δ3) ∧ ys = accD ++ zs ∧ acc.length ≤ i
    have stl : ∀ {i : Nat} {δ : Env} {zs : List IP.D}, lcGo vs t tt te xs ow (xs.drop i) δ = some (zs, δ3) → still δ xs ow = true := by
      intro i δ zs e
      cases hd : xs.drop i with
      | nil =>
        rw [hd] at e
        unfold lcGo at e
        split at e
        · assumption
        · cases e
      | cons _ _ =>
        rw [hd] at e
        unfold lcGo at e
        split at e
        · assumption
        · cases e
    let GG : Hp → Prop := fun H => ∃ B δ, Rl G B H δ (wipe σ vs) ∧ Sub A B ∧ (∀ i, i ∈ vs → δ[i]? = some .un) ∧ still δ xs ow = true
    have w : Walk J xs.length GG (fun i H x H' => J.yld i H x H') :=
      ⟨fun i H hi ⟨B, δ, R, s, hun, st⟩ => iw.goes i B H δ _ R s (hk R hun st) st hi, fun H ⟨B, δ, R, s, hun, st⟩ => iw.stops B H δ _ R s (hk R hun st) st, fun i H x H' _ _ y => y⟩
    refine lc_it w P ⟨A, δ2, [], [], ys, R2, Sub.refl _, hD2, .nil, (unAll_spec e2).2.1, e4, rfl, Nat.le_refl _⟩ ?_ ?_ ?_
    · rintro i H _ ⟨B, δ, acc, accD, zs, R3, s3, _, _, hun, e6, _, _⟩
      exact ⟨B, δ, R3, s3, hun, stl e6⟩
    · rintro i x H H' hi ⟨B, δ, acc, accD, zs, R3, s3, hh, ra, hun, e6, ey, hl⟩ y
      have st := stl e6
      obtain ⟨C, d, R4, s4, sH, fr4, e7, r⟩ := iw.yields i B H δ _ x H' R3 s3 (hk R3 hun st) st hi y
      -- D is held through the whole turn
      have hh4 : Held G C H' δ (wipe σ vs) D acc := ⟨sH _ _ hh.at_, (by
        cases q : C D with
        | none => rfl
        | some o =>
          rcases fr4 D o q with ⟨u, hu⟩ | hu
          · rw [hh.a] at hu
            cases hu
          · rw [hh.at_] at hu
            cases hu), hh.g, hh.h⟩
      have R5 := R4.hold hh4.at_ hh4.a hh4.g hh4.h
      rw [List.drop_eq_getElem_cons hi] at e6
      have ed : xs[i] = d := by
        rw [List.getElem?_eq_getElem hi] at e7
        exact Option.some.inj e7
      rw [ed] at e6
      unfold lcGo at e6
      rw [if_pos st] at e6
      simp only [Option.bind_eq_some_iff] at e6
      obtain ⟨δ4, e8, ⟨k, δ5⟩, e9, e10⟩ := e6
      refine gs (G.with D acc) C H' δ δ4 (wipe σ vs) x d eK R5 r e8 _ fun τ R6 w6 => ?_
      have ww : wipe τ vs = wipe σ vs := (w6 vs hv).trans (wipe_wipe σ vs)
      refine ⟨ww, G.with D acc, C, δ4, k, δ5, eK, R6, e9, fun C7 H7 R7 s7 => ?_⟩
      cases k with
      | true =>
        refine iteT ?_
        simp only [if_true, Option.bind_eq_some_iff, Option.map_eq_some_iff] at e10
        obtain ⟨⟨r8, δ8⟩, e11, δ9, e12, ⟨zs', δz⟩, e13, e14⟩ := e10
        cases e14
        refine ⟨G.with D acc, C7, δ5, r8, δ8, eK, R7, e11, fun v C8 H8 R8 s8 k8 => ?_⟩
        obtain ⟨C9, R9, s9, k9⟩ := R8.toD k8
        obtain ⟨R10, hh10⟩ := R4.found hh4 R9
        have R11 : Rl G C9 H8 δ9 (wipe σ vs) := by
          have := R10.wipe e12
          rw [ww] at this
          exact this
        refine ⟨acc, hh10.at_, ?_, ?_⟩
        · have : i < xs.length := hi
          exact Nat.lt_of_lt_of_le (Nat.lt_of_le_of_lt hl hi) (line_le hlen)
        · have un9 := (unAll_spec e12).2.1
          have nh : ∀ j, ¬ Holds δ9 (wipe σ vs) j D := fun j ⟨⟨s, x1, x2⟩, x3⟩ => by
            by_cases hj : j ∈ vs
            · rw [un9 j hj] at x1
              cases x1
              cases x2
            · rw [(unAll_spec e12).2.2.1 j hj] at x1
              rw [wipe_other hj] at x3
              refine hh10.h j ⟨⟨s, x1, x2⟩, ?_⟩
              have : (wipe τ vs)[j]? = (wipe σ vs)[j]? := by rw [ww]
              rw [wipe_other hj, wipe_other hj] at this
              rw [this]
              exact x3
          refine ⟨C9, δ9, acc ++ [v], accD ++ [r8.toD], zs', R11.relay hh10.at_ hh10.a hh10.g nh, ?_, ⟨upd_same, hh10.a, hh10.g, nh⟩, (ra.sub (((s4.trans s7).trans s8).trans s9)).append (.cons k9 .nil), un9, e13, ?_, ?_⟩
          · exact s3.trans (((s4.trans s7).trans s8).trans s9)
          · rw [ey, List.append_assoc]
            rfl
          · rw [List.length_append, List.length_singleton]
            omega
      | false =>
        refine iteF ?_
        rw [if_neg Bool.false_ne_true] at e10
        simp only [Option.bind_eq_some_iff] at e10
        obtain ⟨δ9, e12, e13⟩ := e10
        obtain ⟨R10, hh10⟩ := R4.found hh4 R7
        have R11 : Rl G C7 H7 δ9 (wipe σ vs) := by
          have := R10.wipe e12
          rw [ww] at this
          exact this
        have un9 := (unAll_spec e12).2.1
        have nh : ∀ j, ¬ Holds δ9 (wipe σ vs) j D := fun j ⟨⟨s, x1, x2⟩, x3⟩ => by
          by_cases hj : j ∈ vs
          · rw [un9 j hj] at x1
            cases x1
            cases x2
          · rw [(unAll_spec e12).2.2.1 j hj] at x1
            rw [wipe_other hj] at x3
            refine hh10.h j ⟨⟨s, x1, x2⟩, ?_⟩
            have : (wipe τ vs)[j]? = (wipe σ vs)[j]? := by rw [ww]
            rw [wipe_other hj, wipe_other hj] at this
            rw [this]
            exact x3
        exact ⟨C7, δ9, acc, accD, zs, R11, s3.trans (s4.trans s7), ⟨hh10.at_, hh10.a, hh10.g, nh⟩, ra.sub (s4.trans s7), un9, e13, ey, by omega⟩
    · rintro H ⟨B, δ, acc, accD, zs, R3, s3, hh, ra, hun, e6, ey, hl⟩
      rw [List.drop_length] at e6
      unfold lcGo at e6
      split at e6
      · cases e6
        rw [List.append_nil] at ey
        subst ey
        have R4 := Rl.back R1 e2 s3 R3
        refine q _ B H R4 (s1.trans s3) ⟨D, acc, rfl, hh.at_, ra, hh.a, hh.g, fun i hi => ?_⟩
        exact hh.h i (back_holds R1 e2 R3 i D hi)
      · cases e6
  · cases e3
variable {elt tg iter : Expr} {ifs : List Expr} {scope : Scope} {own : List (Str × Nat)} {pos : Pos} {it : Ei} {g : TG} {t : Tg} {tt : Et} {te : Ev}
abbrev XTs (X : Cx) (ifs : List Expr) (f : Et) : Prop := PTs X ifs (kT X.K f)
theorem xts_nil : XTs X [] tYes := ⟨fun pins s σ H Q I h => pts_nil.run pins s σ H Q I (by
  obtain ⟨G, H0, δ, b, δ', eK, R, e, q⟩ := h
  cases e
  exact q _ _ R (Sub.refl _))⟩
theorem xts_one {c : Expr} {f : Et} (h : XT X c f) : XTs X [c] f := pts_one h
theorem x_lc (hc : X.calm = true) (hN : X.N.Nodup) (hi : XI X tg iter it) (ok : BlkOk X.N X.env.scope scope own) (gs : GS X.K g t) (hv : ∀ i ∈ t.slots, i ∈ own.map (·.2))
    (hg : ∀ (s : Shared) (H : Hp) (C : Addr) (cl : List (Str × Addr)) (fp : List Addr), PG (X.blk s H scope (compEnvC scope cl C X.env) fp) tg g) (ht : ∀ (s : Shared) (H : Hp) (C : Addr) (cl : List (Str × Addr)) (fp : List Addr), XTs (X.blk s H scope (compEnvC scope cl C X.env) fp) ifs tt)
    (he : ∀ (s : Shared) (H : Hp) (C : Addr) (cl : List (Str × Addr)) (fp : List Addr), XV (X.blk s H scope (compEnvC scope cl C X.env) fp) elt te) (hs : ∀ x, foldedSetIterable iter X.env x = pure x := by intro _; rfl) :
    XV X (.ListComp elt [⟨tg, iter, ifs, 0⟩] scope pos) (vLc (own.map (·.2)) it t tt te) := (pe_lc hc hN hi ok hg ht he hs).weak fun _ _ _ h => lc_read gs hv h
theorem xs_setLc {i : Nat} {y : Str} {py spos : Pos} (hc : X.calm = true) (hN : X.N.Nodup) (hy : X.N[i]? = some y) (hyl : X.env.scope.names.lookup y = some .local)
    (hsw : swapsWith (.ListComp elt [⟨tg, iter, ifs, 0⟩] scope pos) (some (.Name y py)) spos.line X.env = pure true) (hi : XI X tg iter it) (ok : BlkOk X.N X.env.scope scope own) (gs : GS X.K g t) (hv : ∀ i ∈ t.slots, i ∈ own.map (·.2))
    (hg : ∀ (s : Shared) (H : Hp) (C : Addr) (cl : List (Str × Addr)) (fp : List Addr), PG (X.blk s H scope (compEnvC scope cl C X.env) fp) tg g) (ht : ∀ (s : Shared) (H : Hp) (C : Addr) (cl : List (Str × Addr)) (fp : List Addr), XTs (X.blk s H scope (compEnvC scope cl C X.env) fp) ifs tt)
    (he : ∀ (s : Shared) (H : Hp) (C : Addr) (cl : List (Str × Addr)) (fp : List Addr), XV (X.blk s H scope (compEnvC scope cl C X.env) fp) elt te) (hs : ∀ x, foldedSetIterable iter X.env x = pure x := by intro _; rfl) :
    XS X (.Assign [.Name y py] (.ListComp elt [⟨tg, iter, ifs, 0⟩] scope pos) spos) (sSet i (vLc (own.map (·.2)) it t tt te)) :=
  (ps_setLc hc hN hy hyl hsw hi ok hg ht he hs).weak fun D σ H h => by
    have := set_read h
    exact lc_read gs hv (K := X.K) (by
      obtain ⟨G, H0, δ, r, δ', eK, R, e, q⟩ := this
      exact ⟨G, H0, δ, r, δ', eK, R, e, q⟩)
end
end IP
end
section
set_option Elab.async false
set_option linter.all false
set_option maxRecDepth 100000
set_option maxHeartbeats 4000000
/-! tuple * int, any int. -/
namespace L2
open PySem PySem.Spec PyProof.Rows
theorem tuple_mulS (l : Addr) (items : Array Value) (n : Nat) (dd : Option Addr) (sl : Array (Option Value)) (x : Int) (u : Tok) (c0 : (decide (x < -(2 ^ 63)) || decide (x ≥ 2 ^ 63)) = false) (c1 : (items.isEmpty || x == 1) = true) :
    Meets (Builtin.«tuple.__mul__» ⟨[.ref l, .int x u], []⟩) (fun _ R s => s.heap.get? l = some { cls := .type "tuple", dict := dd, data := .seq items n, slots := sl } ∧
      R (.ok (.ret (Value.ref l))) s) :=
  .of_wp fun prog w A R s h => by
    obtain ⟨hp, g, d, tk, os⟩ := s
    obtain ⟨hl, h⟩ := h
    have f1 := AutoSeq1.idx_int
    wp_walk using wpAny_loadPart' hl
    repeat (first
      | (refine wpAny_ite_false (decide_eq_false (by rw [c0]; exact Bool.false_ne_true)) ?_; wp_walk using wpAny_loadPart' hl)
      | (refine wpAny_ite_true (decide_eq_true c1) ?_; wp_walk using wpAny_loadPart' hl))
    exact ⟨_, rfl, h⟩
theorem tuple_mul0 (l : Addr) (items : Array Value) (n : Nat) (dd : Option Addr) (sl : Array (Option Value)) (x : Int) (u : Tok) (c0 : (decide (x < -(2 ^ 63)) || decide (x ≥ 2 ^ 63)) = false) (c1 : (items.isEmpty || x == 1) = false) (c2 : (decide (x ≤ 0) || items.isEmpty) = true) :
    Meets (Builtin.«tuple.__mul__» ⟨[.ref l, .int x u], []⟩) (fun _ R s => s.heap.get? l = some { cls := .type "tuple", dict := dd, data := .seq items n, slots := sl } ∧
      R (.ok (.ret (Value.ref s.heap.objs.size))) { s with heap := s.heap.push { cls := Value.type "tuple", data := Data.seq #[] }, toks := s.toks }) :=
  .of_wp fun prog w A R s h => by
    obtain ⟨hp, g, d, tk, os⟩ := s
    obtain ⟨hl, h⟩ := h
    have f1 := AutoSeq1.idx_int
    wp_walk using wpAny_loadPart' hl
    repeat (first
      | (refine wpAny_ite_false (decide_eq_false (by rw [c0]; exact Bool.false_ne_true)) ?_; wp_walk using wpAny_loadPart' hl)
      | (refine wpAny_ite_false (decide_eq_false (by rw [c1]; exact Bool.false_ne_true)) ?_; wp_walk using wpAny_loadPart' hl)
      | (refine wpAny_ite_true (decide_eq_true c2) ?_; wp_walk using wpAny_loadPart' hl))
    exact ⟨_, rfl, h⟩
/-- t * k: t itself (empty, or k = 1), or a new tuple -/
def rRepA (K : PySem.W.Frag) : R2 := fun x y H Q => ∃ l k xs, x = .ref l ∧ y = .int k ∧ SqT K H l xs ∧ -(2 ^ 62) ≤ k ∧ k ≤ 2 ^ 62 ∧ xs.length * k.toNat ≤ sizeLine ∧ (xs = [] ∨ k = 1 → Q (.ref l) H) ∧
  (¬ (xs = [] ∨ k = 1) → ∀ p, H p = none → Q (.ref p) (upd H p (.tup (List.replicate k.toNat xs).flatten)))
section
variable {X : Cx}
theorem op_repA : OpR X (binaryOp .Mult) (rRepA X.K) := by
  intro pins s σ H x y v u Q I rx ry h
  obtain ⟨l, k, xs, rfl, rfl, hT, h1, h2, hz, q1, q2⟩ := h
  cases rx
  obtain ⟨t, rfl⟩ := ry
  obtain ⟨its, r, ⟨⟨cls, dd, data, sl⟩, ho, hc, n, hd⟩, hs⟩ := I.tuple hT
  simp only at hc hd
  subst hc hd
  have hle : its.length = xs.length := r.length.symm
  have hsz0 : its.toArray.size = xs.length := by rw [List.size_toArray, hle]
  have c0 : (decide (k < -(2 ^ 63)) || decide (k ≥ 2 ^ 63)) = false := by
    rw [decide_eq_false (by omega), decide_eq_false (by omega)] <;> rfl
  by_cases same : xs = [] ∨ k = 1
  · have c1 : (its.toArray.isEmpty || k == 1) = true := by
      rcases same with e | e
      · have : its = [] := List.eq_nil_of_length_eq_zero (by rw [hle, e]; rfl)
        rw [this]
        rfl
      · rw [e]
        simp
    refine wpAny_binaryOp_repeat_ref (T := "tuple") (U := "int") (by decide) ⟨_, ho, rfl⟩ (fun s' => typeIs_int s' k t) noFill_tuple_mul F.fills_int_mul F.slot_int_rmul repeat_tuple F.slot_int_index.lookup
      (call_meets F.slot_int_rmul (typeIs_int s k t) F.entry_int_rmul (F.args_int_rmul_2 _ _) (int_rmul_tuple k t l its.toArray n dd sl)
        ⟨ho, rfl, ⟨_, ho, rfl⟩, call_meets F.slot_tuple_mul ⟨_, ho, rfl⟩ F.entry_tuple_mul (F.args_tuple_mul_2 _ _) (tuple_mulS l its.toArray n dd sl k t c0 c1) ⟨ho, ?_⟩⟩)
    exact ⟨.ref l, H, I, rfl, q1 same⟩
  · have hne : xs ≠ [] := fun e => same (.inl e)
    have hn : its ≠ [] := fun e => hne (by
      rw [e] at hle
      exact List.eq_nil_of_length_eq_zero hle.symm)
    have hi : its.toArray.isEmpty = false := by
      cases its with
      | nil => exact absurd rfl hn
      | cons a b => rfl
    have c1 : (its.toArray.isEmpty || k == 1) = false := by
      rw [hi, Bool.false_or]
      exact beq_eq_false_iff_ne.mpr (fun e => same (.inr e))
    by_cases hk : k ≤ 0
    · have c2 : (decide (k ≤ 0) || its.toArray.isEmpty) = true := by
        rw [decide_eq_true hk] <;> rfl
      refine wpAny_binaryOp_repeat_ref (T := "tuple") (U := "int") (by decide) ⟨_, ho, rfl⟩ (fun s' => typeIs_int s' k t) noFill_tuple_mul F.fills_int_mul F.slot_int_rmul repeat_tuple F.slot_int_index.lookup
        (call_meets F.slot_int_rmul (typeIs_int s k t) F.entry_int_rmul (F.args_int_rmul_2 _ _) (int_rmul_tuple k t l its.toArray n dd sl)
          ⟨ho, rfl, ⟨_, ho, rfl⟩, call_meets F.slot_tuple_mul ⟨_, ho, rfl⟩ F.entry_tuple_mul (F.args_tuple_mul_2 _ _) (tuple_mul0 l its.toArray n dd sl k t c0 c1 c2) ⟨ho, ?_⟩⟩)
      have e0 : (List.replicate k.toNat xs).flatten = [] := by
        have : k.toNat = 0 := by omega
        rw [this]
        rfl
      refine ⟨.ref s.heap.objs.size, _, I.laid (t' := s.toks) (o := .tup []) (fun b ob q => Heap.get?_push_of_some _ q) (Nat.le_refl _) ?_, rfl, ?_⟩
      · exact ⟨Nat.zero_le _, [], .nil, IsTup.new _ _⟩
      · have := q2 same _ (I.hok.fresh (Nat.le_refl _))
        rw [e0] at this
        exact this
    · have kp : 0 < k := by omega
      have hnat : its.toArray.size * k.toNat ≤ sizeLine := by rw [hsz0]; exact hz
      have hint : ((its.toArray.size : Nat) : Int) * k = ((its.toArray.size * k.toNat : Nat) : Int) := by
        rw [Int.natCast_mul, Int.toNat_of_nonneg (by omega)]
      have sl0 : sizeLine = 16777216 := sizeLine_eq
      have flen : (List.replicate k.toNat its).flatten.length ≤ sizeLine := by
        rw [PyProof.Rows.lm_len_rep_flat, hle, Nat.mul_comm]
        exact hz
      have c2 : (decide (k ≤ 0) || its.toArray.isEmpty) = false := by
        rw [hi, Bool.or_false]
        exact decide_eq_false (by omega)
      have c4 : Builtin.Tuple.tupleTooMany (((its.toArray.size : Nat) : Int) * k) = false := by
        unfold Builtin.Tuple.tupleTooMany
        rw [hint]
        exact decide_eq_false (by omega)
      refine wpAny_binaryOp_repeat_ref (T := "tuple") (U := "int") (by decide) ⟨_, ho, rfl⟩ (fun s' => typeIs_int s' k t) noFill_tuple_mul F.fills_int_mul F.slot_int_rmul repeat_tuple F.slot_int_index.lookup
        (call_meets F.slot_int_rmul (typeIs_int s k t) F.entry_int_rmul (F.args_int_rmul_2 _ _) (int_rmul_tuple k t l its.toArray n dd sl)
          ⟨ho, rfl, ⟨_, ho, rfl⟩, call_meets F.slot_tuple_mul ⟨_, ho, rfl⟩ F.entry_tuple_mul (F.args_tuple_mul_2 _ _) (tuple_mulW l its.toArray n dd sl k t c0 c1 c2 (by rw [hint]; omega) c4 (by rw [size_rep, List.size_toArray]; exact flen)) ⟨ho, ?_⟩⟩)
      rw [size_rep]
      refine ⟨.ref s.heap.objs.size, _, I.laid (t' := s.toks) (o := .tup (List.replicate k.toNat xs).flatten) (fun b ob q => Heap.get?_push_of_some _ q) (Nat.le_refl _) ?_, rfl, q2 same _ (I.hok.fresh (Nat.le_refl _))⟩
      exact ⟨by rw [PyProof.Rows.lm_len_rep_flat, Nat.mul_comm]; exact hz, _, r.rep k.toNat, IsTup.new _ _⟩
end
end L2
end
section
set_option Elab.async false
set_option linter.all false
set_option maxRecDepth 100000
set_option maxHeartbeats 2000000
namespace IP
open PySem L2
/-! ### the operators -/
section
variable {X : Cx} {K : PySem.W.Frag}
theorem relT_int {H0 H : Hp} {v : V} {i : Int} (h : RelT K H0 H v (.int i)) : v = .int i := by
  rcases h with h | ⟨_, _, _, h, _⟩
  · cases h
    rfl
  · cases h
theorem relT_bool {H0 H : Hp} {v : V} {i : Bool} (h : RelT K H0 H v (.bool i)) : v = .bl i := by
  rcases h with h | ⟨_, _, _, h, _⟩
  · cases h
    rfl
  · cases h
theorem relT_list {H0 H : Hp} {v : V} {ds : List D} (s : Sub H0 H) (h : RelT K H0 H v (.list ds)) : ∃ p xs, v = .ref p ∧ H p = some (.lst xs) ∧ RelAll K H0 xs ds := by
  rcases h with h | ⟨_, _, _, e, h⟩
  · cases h with
    | lst h1 h2 => exact ⟨_, _, rfl, s _ _ h1, h2⟩
  · cases e
    exact ⟨_, _, h⟩
theorem relT_tup {H0 H : Hp} {v : V} {ds : List D} (h : RelT K H0 H v (.tuple ds)) : ∃ p xs, v = .ref p ∧ SqT K H0 p xs ∧ RelAll K H0 xs ds := by
  rcases h with h | ⟨_, _, _, e, h⟩
  · cases h with
    | tup h1 h2 => exact ⟨_, _, rfl, h1, h2⟩
  · cases e
theorem relT_scr {H0 H : Hp} {v : V} {xs : List D} (h : RelT K H0 H v (.dict [(.none, .tuple xs)])) : ∃ (p : Addr) (ns : List Int), v = .ref p ∧ SqL K H0 p (ns.map V.int) ∧ xs = ns.map PyData.int := by
  rcases h with h | ⟨_, _, _, e, h⟩
  · generalize e : (PyData.dict [(.none, .tuple xs)]) = d at h
    cases h with
    | scr h1 =>
      unfold IP.scr at e
      injection e with e
      injection e with e _
      injection e with _ e
      injection e with e
      exact ⟨_, _, rfl, h1, e⟩
    | _ => cases e
  · cases e
theorem s_int {op : D → D → Option Res} {C : Int → Int → Prop} {f : Int → Int → Int} (h : ∀ a b res, op a b = some res → ∃ i j, a = .int i ∧ b = .int j ∧ C i j ∧ res = .dat (.int (f i j))) : OpS K (rI C fun i j => .int (f i j)) op := by
  intro G H0 H δ σ x y dx dy res eK R rx ry e Q q
  obtain ⟨i, j, rfl, rfl, c, rfl⟩ := h _ _ _ e
  obtain rfl := relT_int rx
  obtain rfl := relT_int ry
  exact ⟨i, j, rfl, rfl, c, q _ _ _ R (Sub.refl _) (.int _)⟩
theorem s_cmp {op : D → D → Option Res} {f : Int → Int → Bool} (h : ∀ a b res, op a b = some res → ∃ i j, a = .int i ∧ b = .int j ∧ res = .dat (.bool (f i j))) : OpS K (rI0 fun i j => .bl (f i j)) op := by
  intro G H0 H δ σ x y dx dy res eK R rx ry e Q q
  obtain ⟨i, j, rfl, rfl, rfl⟩ := h _ _ _ e
  obtain rfl := relT_int rx
  obtain rfl := relT_int ry
  exact ⟨i, j, rfl, rfl, q _ _ _ R (Sub.refl _) (.bl _)⟩
theorem s_sub : OpS K (rI0 fun i j => .int (i - j)) bSub := by
  intro G H0 H δ σ x y dx dy res eK R rx ry e Q q
  cases dx <;> cases dy <;> simp only [bSub, reduceCtorEq, Option.some.injEq] at e
  subst e
  obtain rfl := relT_int rx
  obtain rfl := relT_int ry
  exact ⟨_, _, rfl, rfl, q _ _ _ R (Sub.refl _) (.int _)⟩
theorem s_lt : OpS K (rI0 fun i j => .bl (decide (i < j))) bLt := s_cmp fun a b res e => by
  cases a <;> cases b <;> simp only [bLt, reduceCtorEq, Option.some.injEq] at e
  exact ⟨_, _, rfl, rfl, e.symm⟩
theorem s_le : OpS K (rI0 fun i j => .bl (decide (i ≤ j))) bLe := s_cmp fun a b res e => by
  cases a <;> cases b <;> simp only [bLe, reduceCtorEq, Option.some.injEq] at e
  exact ⟨_, _, rfl, rfl, e.symm⟩
theorem s_gt : OpS K (rI0 fun i j => .bl (decide (j < i))) bGt := s_cmp fun a b res e => by
  cases a <;> cases b <;> simp only [bGt, reduceCtorEq, Option.some.injEq] at e
  exact ⟨_, _, rfl, rfl, e.symm⟩
theorem s_ge : OpS K (rI0 fun i j => .bl (decide (j ≤ i))) bGe := s_cmp fun a b res e => by
  cases a <;> cases b <;> simp only [bGe, reduceCtorEq, Option.some.injEq] at e
  exact ⟨_, _, rfl, rfl, e.symm⟩
theorem s_mod : OpS K (rI (fun _ j => 0 < j) fun i j => .int (i % j)) bMod := s_int fun a b res e => by
  cases a <;> cases b <;> simp only [bMod, reduceCtorEq, Option.some.injEq] at e
  split at e
  · rename_i h
    cases e
    exact ⟨_, _, rfl, rfl, h, rfl⟩
  · cases e
theorem s_pow : OpS K (rI CPow fun i j => .int (i ^ j.toNat)) bPow := s_int fun a b res e => by
  cases a <;> cases b <;> simp only [bPow, reduceCtorEq, Option.some.injEq] at e
  split at e
  · rename_i h
    cases e
    exact ⟨_, _, rfl, rfl, h, rfl⟩
  · cases e
theorem s_shr : OpS K (rI (fun _ j => 0 ≤ j) fun i j => .int (i / 2 ^ j.toNat)) bShr := s_int fun a b res e => by
  cases a <;> cases b <;> simp only [bShr, reduceCtorEq, Option.some.injEq] at e
  split at e
  · rename_i h
    cases e
    exact ⟨_, _, rfl, rfl, h, rfl⟩
  · cases e
theorem or_cases {r r' : R2} {x y : V} {H : Hp} {Q : VK} (h : r x y H Q ∨ r' x y H Q) : (fun x y H Q => r x y H Q ∨ r' x y H Q : R2) x y H Q := h
abbrev rFdiv : R2 := fun x y H Q => (rI CDiv fun i j => .int (i / j)) x y H Q ∨ (rI CDivW fun i j => .int (i / j)) x y H Q
theorem op_fdivA : OpR X (binaryOp .FloorDiv) rFdiv := op_fdiv.or op_fdivW
theorem s_fdiv : OpS K rFdiv bFdiv := by
  intro G H0 H δ σ x y dx dy res eK R rx ry e Q q
  cases dx <;> cases dy <;> simp only [bFdiv, reduceCtorEq] at e
  split at e
  · rename_i h
    cases e
    obtain rfl := relT_int rx
    obtain rfl := relT_int ry
    rcases h with ⟨h1, h2 | h2⟩
    · exact .inl ⟨_, _, rfl, rfl, ⟨h1, h2⟩, q _ _ _ R (Sub.refl _) (.int _)⟩
    · exact .inr ⟨_, _, rfl, rfl, ⟨h1, h2⟩, q _ _ _ R (Sub.refl _) (.int _)⟩
  · cases e
abbrev rAddA (K : PySem.W.Frag) : R2 := fun x y H Q => (rI0 fun i j => .int (i + j)) x y H Q ∨ (fun x y H Q => rCatA K x y H Q ∨ rCat x y H Q) x y H Q
theorem op_addA : OpR X (binaryOp .Add) (rAddA X.K) := op_add.or (op_catA.or op_cat)
theorem s_add : OpS K (rAddA K) bAdd := by
  intro G H0 H δ σ x y dx dy res eK R rx ry e Q q
  subst eK
  cases dx <;> cases dy <;> simp only [bAdd, reduceCtorEq] at e
  · cases e
    obtain rfl := relT_int rx
    obtain rfl := relT_int ry
    exact .inl ⟨_, _, rfl, rfl, q _ _ _ R (Sub.refl _) (.int _)⟩
  · split at e
    · rename_i h
      cases e
      obtain ⟨p, xs, rfl, h1, h2⟩ := relT_list R.sub rx
      obtain ⟨p', ys, rfl, h3, h4⟩ := relT_list R.sub ry
      refine .inr (.inr ⟨p, p', xs, ys, rfl, rfl, h1, h3, line_le (by rw [h2.length, h4.length]; exact h), fun z hz => ?_⟩)
      have f := R.fresh hz
      exact q _ _ _ (R.laid hz) (Sub.refl _) ⟨z, _, rfl, upd_same, h2.append h4, f.1, f.2.1, f.2.2⟩
    · cases e
  · split at e
    · rename_i h
      cases e
      obtain ⟨p, xs, rfl, h1, h2⟩ := relT_tup rx
      obtain ⟨p', ys, rfl, h3, h4⟩ := relT_tup ry
      refine .inr (.inl ⟨p, p', xs, ys, rfl, rfl, SqT.sub R.sub h1, SqT.sub R.sub h3, line_le (by rw [h2.length, h4.length]; exact h), fun z => ?_, fun _ z => ?_, fun _ _ z hz => ?_⟩)
      · subst z
        refine q _ _ _ R (Sub.refl _) ?_
        cases h2
        exact .tup h3 h4
      · subst z
        refine q _ _ _ R (Sub.refl _) ?_
        cases h4
        show Rel G.K H0 (.ref p) (.tuple (_ ++ []))
        rw [List.append_nil]
        exact .tup h1 h2
      · obtain ⟨R4, s4⟩ := R.laid0 (o := .tup (xs ++ ys)) hz
        exact q _ _ _ R4 s4 (.tup (SqT.of upd_same) ((h2.append h4).sub s4))
    · cases e
abbrev rMulA (K : PySem.W.Frag) : R2 := fun x y H Q => (fun x y H Q => (rI CMul fun i j => .int (i * j)) x y H Q ∨ (rI CMulW fun i j => .int (i * j)) x y H Q) x y H Q ∨ (fun x y H Q => rRep x y H Q ∨ rRepA K x y H Q) x y H Q
theorem op_mulA : OpR X (binaryOp .Mult) (rMulA X.K) := (op_mul.or op_mulW).or (op_rep.or op_repA)
theorem s_mul : OpS K (rMulA K) bMul := by
  intro G H0 H δ σ x y dx dy res eK R rx ry e Q q
  subst eK
  cases dx <;> cases dy <;> simp only [bMul, reduceCtorEq] at e
  · split at e
    · rename_i h
      cases e
      obtain rfl := relT_int rx
      obtain rfl := relT_int ry
      rcases h with h | h
      · exact .inl (.inl ⟨_, _, rfl, rfl, h, q _ _ _ R (Sub.refl _) (.int _)⟩)
      · exact .inl (.inr ⟨_, _, rfl, rfl, h, q _ _ _ R (Sub.refl _) (.int _)⟩)
    · cases e
  · split at e
    · rename_i h
      cases e
      obtain ⟨p, xs, rfl, h1, h2⟩ := relT_list R.sub rx
      obtain rfl := relT_int ry
      refine .inr (.inl ⟨p, _, xs, rfl, rfl, h1, h.1, h.2.1, line_le (by rw [h2.length]; exact h.2.2), fun z hz => ?_⟩)
      have f := R.fresh hz
      exact q _ _ _ (R.laid hz) (Sub.refl _) ⟨z, _, rfl, upd_same, h2.rep _, f.1, f.2.1, f.2.2⟩
    · cases e
  · split at e
    · rename_i h
      cases e
      obtain ⟨p, xs, rfl, h1, h2⟩ := relT_tup rx
      obtain rfl := relT_int ry
      refine .inr (.inr ⟨p, _, xs, rfl, rfl, SqT.sub R.sub h1, h.1, h.2.1, line_le (by rw [h2.length]; exact h.2.2), fun hw => ?_, fun _ z hz => ?_⟩)
      · refine q _ _ _ R (Sub.refl _) ?_
        rcases hw with z | z
        · subst z
          cases h2
          show Rel G.K H0 (.ref p) (.tuple _)
          simp only [List.flatten_replicate_nil]
          exact .tup h1 .nil
        · subst z
          show Rel G.K H0 (.ref p) (.tuple _)
          have e1 : (1 : Int).toNat = 1 := rfl
          rw [e1, List.replicate_one, List.flatten_singleton]
          exact .tup h1 h2
      · obtain ⟨R4, s4⟩ := R.laid0 hz
        exact q _ _ _ R4 s4 (.tup (SqT.of upd_same) ((h2.rep _).sub s4))
    · cases e
/-- equality of data -/
theorem relT_dp {H0 H : Hp} {v : V} {d : D} (s : Sub H0 H) (h : RelT K H0 H v d) (hs : SeqAt.shaped d = true) : Dp K H v d := by
  rcases h with h | ⟨p, xs, ds, rfl, rfl, h1, h2⟩
  · exact (h.sub s).dp hs
  · exact (Rel.lst h1 (h2.sub s)).dp hs
theorem s_eq : OpS K (rEqD K) bEq := by
  intro G H0 H δ σ x y dx dy res eK R rx ry e Q q
  subst eK
  unfold bEq at e
  split at e
  · rename_i h
    cases e
    exact ⟨dx, dy, relT_dp R.sub rx h.1, relT_dp R.sub ry h.2, h.1, h.2, q _ _ _ R (Sub.refl _) (.bl _)⟩
  · cases e
theorem s_ne : OpS K (rNeD K) bNe := by
  intro G H0 H δ σ x y dx dy res eK R rx ry e Q q
  subst eK
  unfold bNe at e
  split at e
  · rename_i h
    cases e
    exact ⟨dx, dy, relT_dp R.sub rx h.1, relT_dp R.sub ry h.2, h.1, h.2, q _ _ _ R (Sub.refl _) (.bl _)⟩
  · cases e
/-- items -/
theorem atD_rel {H0 : Hp} {xs : List V} {ds : List D} {i : Int} {d : D} (r : RelAll K H0 xs ds) (e : atD ds i = some d) : ∃ v, atI xs i = some v ∧ Rel K H0 v d := by
  unfold atD at e
  simp only [Option.bind_eq_some_iff] at e
  obtain ⟨j, e1, e2⟩ := e
  obtain ⟨v, h1, h2⟩ := r.get e2
  refine ⟨v, ?_, h2⟩
  unfold atI
  rw [r.length]
  have e1' : L2.ixN ds.length i = some j := e1
  rw [e1']
  exact h1
abbrev rIxA (K : PySem.W.Frag) : R2 := fun x y H Q => rIxL K x y H Q ∨ rIxT K x y H Q
theorem ix_any : IxR X (rIxA X.K) := ix_list.or ix_tup
theorem s_ix : OpS K (rIxA K) bIx := by
  intro G H0 H δ σ x y dx dy res eK R rx ry e Q q
  subst eK
  have lst : ∀ ds i, dx = .list ds → dy = .int i → (atD ds i).map Res.dat = some res → rIxA G.K x y H Q := by
    rintro ds i rfl rfl e
    simp only [Option.map_eq_some_iff] at e
    obtain ⟨d, e1, rfl⟩ := e
    obtain ⟨p, xs, rfl, h1, h2⟩ := relT_list R.sub rx
    obtain rfl := relT_int ry
    obtain ⟨v, h3, h4⟩ := atD_rel h2 e1
    exact .inl ⟨p, xs, i, v, rfl, rfl, SqL.of h1, h3, q _ _ _ R (Sub.refl _) h4⟩
  have tup : ∀ ds i, dx = .tuple ds → dy = .int i → (atD ds i).map Res.dat = some res → rIxA G.K x y H Q := by
    rintro ds i rfl rfl e
    simp only [Option.map_eq_some_iff] at e
    obtain ⟨d, e1, rfl⟩ := e
    obtain ⟨p, xs, rfl, h1, h2⟩ := relT_tup rx
    obtain rfl := relT_int ry
    obtain ⟨v, h3, h4⟩ := atD_rel h2 e1
    exact .inr ⟨p, xs, i, v, rfl, rfl, SqT.sub R.sub h1, h3, q _ _ _ R (Sub.refl _) h4⟩
  unfold bIx at e
  split at e
  · exact lst _ _ rfl rfl e
  · exact tup _ _ rfl rfl e
  · simp only [Option.map_eq_some_iff] at e
    obtain ⟨d, e1, rfl⟩ := e
    obtain ⟨p, ns, rfl, h1, rfl⟩ := relT_scr rx
    obtain rfl := relT_int ry
    obtain ⟨v, h3, h4⟩ := atD_rel (K := G.K) (H0 := H0) relAll_ints e1
    exact .inl ⟨p, _, _, v, rfl, rfl, SqL.sub R.sub h1, h3, q _ _ _ R (Sub.refl _) h4⟩
  · cases e
theorem s_neg : UnS K (rU fun i => .int (-i)) uNeg := by
  intro G H0 H δ σ x dx res eK R rx e Q q
  cases dx <;> simp only [uNeg, reduceCtorEq, Option.some.injEq] at e
  subst e
  obtain rfl := relT_int rx
  exact ⟨_, rfl, q _ _ _ R (Sub.refl _) (.int _)⟩
/-- is None -/
theorem isNone_eq {H0 H : Hp} {v : V} {d : D} (h : RelT K H0 H v d) : decide (v = .non) = isNone d := by
  rcases h with h | ⟨p, xs, ds, rfl, rfl, _⟩
  · cases h <;> simp [isNone, IP.scr]
  · simp [isNone]
variable {a : Expr} {f : Eo} {pos : Pos}
theorem x_isN {j pos'} (ha : XO X a f) : XV X (.Compare a [.Is] [.Constant .none j pos'] pos) (fUn uIsN f) := (pe_cmp (pc_isN ha)).weak fun σ H Q ⟨G, H0, δ, res, δ', eK, R, e, q⟩ => by
  simp only [fUn, uIsN, Option.bind_eq_some_iff, Option.map_eq_some_iff] at e
  obtain ⟨⟨o1, δ1⟩, e1, dx, e3, r', e5, e6⟩ := e
  cases e5
  cases e6
  refine ⟨G, H0, δ, o1, δ1, eK, R, e1, fun v H0' H' R1 s1 k1 => ?_⟩
  dsimp only
  rw [isNone_eq (R1.rd k1 e3)]
  exact q _ _ _ R1 s1 (.bl _)
theorem x_notN {j pos'} (ha : XO X a f) : XV X (.Compare a [.IsNot] [.Constant .none j pos'] pos) (fUn uNotN f) := (pe_cmp (pc_notN ha)).weak fun σ H Q ⟨G, H0, δ, res, δ', eK, R, e, q⟩ => by
  simp only [fUn, uNotN, Option.bind_eq_some_iff, Option.map_eq_some_iff] at e
  obtain ⟨⟨o1, δ1⟩, e1, dx, e3, r', e5, e6⟩ := e
  cases e5
  cases e6
  refine ⟨G, H0, δ, o1, δ1, eK, R, e1, fun v H0' H' R1 s1 k1 => ?_⟩
  dsimp only
  rw [isNone_eq (R1.rd k1 e3)]
  exact q _ _ _ R1 s1 (.bl _)
/-- a bool as a test, where isTrue goes by the value -/
theorem tB_read {f : Ev} {σ : L2.St} {H : Hp} {Q : Bool → Hp → Prop} (h : kT K (tB f) σ H Q) : L2.tB (kE K f) σ H Q := by
  obtain ⟨G, H0, δ, res, δ', eK, R, e, q⟩ := h
  simp only [IP.tB, Option.bind_eq_some_iff] at e
  obtain ⟨⟨r1, δ1⟩, e1, e2⟩ := e
  refine ⟨G, H0, δ, r1, δ1, eK, R, e1, fun v H0' H' R1 s1 k1 => ?_⟩
  cases r1 with
  | new ds => cases e2
  | dat d =>
    cases d with
    | bool k =>
      cases e2
      cases k1
      exact ⟨_, rfl, q _ _ R1 s1⟩
    | _ => cases e2
theorem x_isNT {j pos'} (ha : XO X a f) : XT X (.Compare a [.Is] [.Constant .none j pos'] pos) (tB (fUn uIsN f)) := (pt_cmp (pc_isN ha)).weak fun σ H Q h => by
  have := tB_read h
  obtain ⟨G, H0, δ, res, δ', eK, R, e, q⟩ := this
  simp only [fUn, uIsN, Option.bind_eq_some_iff, Option.map_eq_some_iff] at e
  obtain ⟨⟨o1, δ1⟩, e1, dx, e3, r', e5, e6⟩ := e
  cases e5
  cases e6
  refine ⟨G, H0, δ, o1, δ1, eK, R, e1, fun v H0' H' R1 s1 k1 => ?_⟩
  dsimp only
  rw [isNone_eq (R1.rd k1 e3)]
  exact q _ _ _ R1 s1 (.bl _)
theorem x_notNT {j pos'} (ha : XO X a f) : XT X (.Compare a [.IsNot] [.Constant .none j pos'] pos) (tB (fUn uNotN f)) := (pt_cmp (pc_notN ha)).weak fun σ H Q h => by
  have := tB_read h
  obtain ⟨G, H0, δ, res, δ', eK, R, e, q⟩ := this
  simp only [fUn, uNotN, Option.bind_eq_some_iff, Option.map_eq_some_iff] at e
  obtain ⟨⟨o1, δ1⟩, e1, dx, e3, r', e5, e6⟩ := e
  cases e5
  cases e6
  refine ⟨G, H0, δ, o1, δ1, eK, R, e1, fun v H0' H' R1 s1 k1 => ?_⟩
  dsimp only
  rw [isNone_eq (R1.rd k1 e3)]
  exact q _ _ _ R1 s1 (.bl _)
theorem x_notV {A : Ev} (ha : XV X a A) : XV X (.UnaryOp .Not a pos) (vNot A) := (pe_not ha).weak fun σ H Q ⟨G, H0, δ, res, δ', eK, R, e, q⟩ => by
  simp only [vNot, Option.bind_eq_some_iff] at e
  obtain ⟨⟨t, δ1⟩, e1, e2⟩ := e
  refine ⟨G, H0, δ, t, δ1, eK, R, e1, fun v H0' H' R1 s1 k1 => ?_⟩
  cases t with
  | new _ => cases e2
  | dat d =>
    cases d with
    | bool t =>
      cases e2
      cases k1
      exact ⟨t, rfl, q _ _ _ R1 s1 (.bl _)⟩
    | _ => cases e2
end
end IP
end
section
set_option Elab.async false
set_option linter.all false
set_option maxRecDepth 100000
set_option maxHeartbeats 400000
namespace IP
open PySem L2
section
variable {X : Cx} {K : PySem.W.Frag} {a : Expr} {f : Eo} {pos : Pos}
/-! ### isinstance -/
def tyS : Ty → String
  | .int => "int"
  | .bool => "bool"
  | .str => "str"
  | .list => "list"
  | .tuple => "tuple"
def tyOfD : D → String
  | .none => "NoneType"
  | .bool _ => "bool"
  | .int _ => "int"
  | .str _ => "str"
  | .list _ => "list"
  | .tuple _ => "tuple"
  | .dict _ => "list"
theorem kB_none_int : kitB "NoneType" "int" = some false := by decide +kernel
theorem kB_none_bool : kitB "NoneType" "bool" = some false := by decide +kernel
theorem kB_none_str : kitB "NoneType" "str" = some false := by decide +kernel
theorem kB_none_list : kitB "NoneType" "list" = some false := by decide +kernel
theorem kB_none_tuple : kitB "NoneType" "tuple" = some false := by decide +kernel
theorem kB_bool_int : kitB "bool" "int" = some true := by decide +kernel
theorem kB_bool_bool : kitB "bool" "bool" = some true := by decide +kernel
theorem kB_bool_str : kitB "bool" "str" = some false := by decide +kernel
theorem kB_bool_list : kitB "bool" "list" = some false := by decide +kernel
theorem kB_bool_tuple : kitB "bool" "tuple" = some false := by decide +kernel
theorem kB_int_int : kitB "int" "int" = some true := by decide +kernel
theorem kB_int_bool : kitB "int" "bool" = some false := by decide +kernel
theorem kB_int_str : kitB "int" "str" = some false := by decide +kernel
theorem kB_int_list : kitB "int" "list" = some false := by decide +kernel
theorem kB_int_tuple : kitB "int" "tuple" = some false := by decide +kernel
theorem kB_str_int : kitB "str" "int" = some false := by decide +kernel
theorem kB_str_bool : kitB "str" "bool" = some false := by decide +kernel
theorem kB_str_str : kitB "str" "str" = some true := by decide +kernel
theorem kB_str_list : kitB "str" "list" = some false := by decide +kernel
theorem kB_str_tuple : kitB "str" "tuple" = some false := by decide +kernel
theorem kB_list_int : kitB "list" "int" = some false := by decide +kernel
theorem kB_list_bool : kitB "list" "bool" = some false := by decide +kernel
theorem kB_list_str : kitB "list" "str" = some false := by decide +kernel
theorem kB_list_list : kitB "list" "list" = some true := by decide +kernel
theorem kB_list_tuple : kitB "list" "tuple" = some false := by decide +kernel
theorem kB_tuple_int : kitB "tuple" "int" = some false := by decide +kernel
theorem kB_tuple_bool : kitB "tuple" "bool" = some false := by decide +kernel
theorem kB_tuple_str : kitB "tuple" "str" = some false := by decide +kernel
theorem kB_tuple_list : kitB "tuple" "list" = some false := by decide +kernel
theorem kB_tuple_tuple : kitB "tuple" "tuple" = some true := by decide +kernel
theorem kit_d : ∀ {t : Ty} {d : D} {b : Bool}, isTy t d = some b → kitB (tyOfD d) (tyS t) = some b
  | .int, .none, b, e => by
    cases e
    exact kB_none_int
  | .bool, .none, b, e => by
    cases e
    exact kB_none_bool
  | .str, .none, b, e => by
    cases e
    exact kB_none_str
  | .list, .none, b, e => by
    cases e
    exact kB_none_list
  | .tuple, .none, b, e => by
    cases e
    exact kB_none_tuple
  | .int, .bool _, b, e => by
    cases e
    exact kB_bool_int
  | .bool, .bool _, b, e => by
    cases e
    exact kB_bool_bool
  | .str, .bool _, b, e => by
    cases e
    exact kB_bool_str
  | .list, .bool _, b, e => by
    cases e
    exact kB_bool_list
  | .tuple, .bool _, b, e => by
    cases e
    exact kB_bool_tuple
  | .int, .int _, b, e => by
    cases e
    exact kB_int_int
  | .bool, .int _, b, e => by
    cases e
    exact kB_int_bool
  | .str, .int _, b, e => by
    cases e
    exact kB_int_str
  | .list, .int _, b, e => by
    cases e
    exact kB_int_list
  | .tuple, .int _, b, e => by
    cases e
    exact kB_int_tuple
  | .int, .str _, b, e => by
    cases e
    exact kB_str_int
  | .bool, .str _, b, e => by
    cases e
    exact kB_str_bool
  | .str, .str _, b, e => by
    cases e
    exact kB_str_str
  | .list, .str _, b, e => by
    cases e
    exact kB_str_list
  | .tuple, .str _, b, e => by
    cases e
    exact kB_str_tuple
  | .int, .list _, b, e => by
    cases e
    exact kB_list_int
  | .bool, .list _, b, e => by
    cases e
    exact kB_list_bool
  | .str, .list _, b, e => by
    cases e
    exact kB_list_str
  | .list, .list _, b, e => by
    cases e
    exact kB_list_list
  | .tuple, .list _, b, e => by
    cases e
    exact kB_list_tuple
  | .int, .tuple _, b, e => by
    cases e
    exact kB_tuple_int
  | .bool, .tuple _, b, e => by
    cases e
    exact kB_tuple_bool
  | .str, .tuple _, b, e => by
    cases e
    exact kB_tuple_str
  | .list, .tuple _, b, e => by
    cases e
    exact kB_tuple_list
  | .tuple, .tuple _, b, e => by
    cases e
    exact kB_tuple_tuple
  | .int, .dict _, b, e => by cases e
  | .bool, .dict _, b, e => by cases e
  | .str, .dict _, b, e => by cases e
  | .list, .dict _, b, e => by cases e
  | .tuple, .dict _, b, e => by cases e
theorem tyx_d {H0 H : Hp} {v : V} {d : D} (s : Sub H0 H) (h : RelT K H0 H v d) (hd : ∀ kvs, d ≠ .dict kvs) : TyX K H v (.type (tyOfD d)) := by
  rcases h with h | ⟨p, xs, ds, rfl, rfl, h1, _⟩
  · cases h with
    | non => exact .base .non
    | bl b => exact .base (.bl b)
    | int i => exact .base (.int i)
    | str x => exact .base (.str x)
    | lst h1 h2 => exact .base (.lst (s _ _ h1))
    | tup h1 h2 =>
      rcases h1 with (h1 | ⟨o, h1⟩) | ⟨o, its, n, h1, h3, _⟩
      · exact .base (.tup (s _ _ h1))
      · exact .fTuple (s _ _ h1)
      · exact .kTuple h1 h3
    | scr _ => exact absurd rfl (hd _)
  · exact .base (.lst h1)
theorem isAny_kit {ts : List Ty} {d : D} {b : Bool} (e : isAny ts d = some b) : PySem.W.kitAny K (.type (tyOfD d)) (ts.map fun t => .type (tyS t)) = some b := by
  induction ts with
  | nil =>
    cases e
    exact kitAny_nil
  | cons t ts ih =>
    simp only [isAny, Option.bind_eq_some_iff] at e
    obtain ⟨c, e1, e2⟩ := e
    refine kitAny_cons (kit_ty (kit_d e1)) (fun h => ?_) (fun h => ?_)
    · subst h
      exact ih (by simpa using e2)
    · subst h
      simp only [if_true, Option.some.injEq] at e2
      exact e2.symm
theorem isAny_nodict {ts : List Ty} {d : D} {b : Bool} (hn : ts ≠ []) (e : isAny ts d = some b) : ∀ kvs, d ≠ .dict kvs := by
  intro kvs h
  subst h
  cases ts with
  | nil => exact hn rfl
  | cons t ts => cases t <;> simp [isAny, isTy] at e
/-- the classes of a tuple of classes -/
def kTys (ts : List Ty) : TA := fun _ H Q => Q (ts.map fun t => V.ty (tyS t)) H
theorem xty_nil : PA X [] (kTys []) := pa_nil
theorem xty_cons {t : Ty} {ts : List Ty} {x : Str} {p : Pos} {es : List Expr} (hg : Gl X x) (hm : X.mg x = none) (hv : bootBuiltins x = some (.type (tyS t))) (ht : PA X es (kTys ts)) (hn : x ≠ "__name__" := by decide) (hdb : (x == ("__debug__" : Str)) = false := by decide)
    (hs : starEach (.Name x p :: es) X.env = (false, eval (.Name x p) X.env) :: starEach es X.env := by rfl) : PA X (.Name x p :: es) (kTys (t :: ts)) := (pa_cons (pe_bltn (v := .ty (tyS t)) hg hm hv rfl hn hdb) ht hs).weak fun _ _ _ h => h
theorem cls_all (ts : List Ty) : Paired ClsV (ts.map fun t => V.ty (tyS t)) (ts.map fun t => Value.type (tyS t)) := by
  induction ts with
  | nil => exact .nil
  | cons t ts ih => exact .cons (.ty _) ih
theorem x_isi1 {t : Ty} {x : Str} {p p2 : Pos} (ha : XO X a f) (hgi : Gl X "isinstance") (hmi : X.mg "isinstance" = none) (hbi : bootBuiltins "isinstance" = some (.builtin "isinstance")) (hg : Gl X x) (hm : X.mg x = none) (hv : bootBuiltins x = some (.type (tyS t))) (hn : x ≠ "__name__" := by decide) (hdb : (x == ("__debug__" : Str)) = false := by decide)
    (h1 : starEach [a, .Name x p] X.env = (false, eval a X.env) :: starEach [.Name x p] X.env := by rfl) (h2 : (backTo pos (starEach [.Name x p] X.env)).any (·.1) = false := by rfl) (h3 : starEach [.Name x p] X.env = (false, eval (.Name x p) X.env) :: starEach [] X.env := by rfl) :
    XV X (.Call (.Name "isinstance" p2) [a, .Name x p] [] pos) (fUn (uIs [t]) f) :=
  (pe_callB call_isi hgi hmi hbi (pa_cons ha (pa_cons (pe_bltn (v := .ty (tyS t)) hg hm hv rfl hn hdb) pa_nil h3) h1) (by decide) (by decide) h1 h2).weak fun σ H Q ⟨G, H0, δ, res, δ', eK, R, e, q⟩ => by
    simp only [fUn, uIs, Option.bind_eq_some_iff, Option.map_eq_some_iff] at e
    obtain ⟨⟨o1, δ1⟩, e1, dx, e3, r', ⟨b, e5, e5'⟩, e6⟩ := e
    cases e5'
    cases e6
    refine ⟨G, H0, δ, o1, δ1, eK, R, e1, fun v H0' H' R1 s1 k1 => ?_⟩
    rw [← eK]
    have rt := R1.rd k1 e3
    have nd := isAny_nodict (by simp) e5
    simp only [isAny, Option.bind_eq_some_iff] at e5
    obtain ⟨c, e7, e8⟩ := e5
    have : c = b := by
      cases c
      · simpa using e8
      · simpa using e8
    subst this
    exact ⟨v, .ty (tyS t), _, _, c, rfl, .ty _, tyx_d R1.sub rt nd, kit_ty (kit_d e7), q _ _ _ R1 s1 (.bl _)⟩
theorem x_isiT {ts : List Ty} {es : List Expr} {j : Nat} {p p2 : Pos} (hne : ts ≠ []) (hlen : ts.length ≤ 100) (ha : XO X a f) (hgi : Gl X "isinstance") (hmi : X.mg "isinstance" = none) (hbi : bootBuiltins "isinstance" = some (.builtin "isinstance")) (ht : PA X es (kTys ts))
    (h1 : starEach [a, .Tuple es j p] X.env = (false, eval a X.env) :: starEach [.Tuple es j p] X.env := by rfl) (h2 : (backTo pos (starEach [.Tuple es j p] X.env)).any (·.1) = false := by rfl) (h3 : starEach [.Tuple es j p] X.env = (false, eval (.Tuple es j p) X.env) :: starEach [] X.env := by rfl) :
    XV X (.Call (.Name "isinstance" p2) [a, .Tuple es j p] [] pos) (fUn (uIs ts) f) :=
  (pe_callB call_isiT hgi hmi hbi (pa_cons ha (pa_cons (pe_tup ht) pa_nil h3) h1) (by decide) (by decide) h1 h2).weak fun σ H Q ⟨G, H0, δ, res, δ', eK, R, e, q⟩ => by
    simp only [fUn, uIs, Option.bind_eq_some_iff, Option.map_eq_some_iff] at e
    obtain ⟨⟨o1, δ1⟩, e1, dx, e3, r', ⟨b, e5, e5'⟩, e6⟩ := e
    cases e5'
    cases e6
    refine ⟨G, H0, δ, o1, δ1, eK, R, e1, fun v H0' H' R1 s1 k1 => ?_⟩
    rw [← eK]
    have rt := R1.rd k1 e3
    have nd := isAny_nodict hne e5
    refine ⟨Nat.le_trans (by rw [List.length_map]; exact hlen) (by rw [sizeLine_eq]; decide), fun z hz => ?_⟩
    refine ⟨v, z, _, _, _, b, rfl, upd_same, cls_all ts, tyx_d (R1.laid hz).sub (by
      rcases rt with rt | ⟨p', xs, ds, e1, e2, e3, e4⟩
      · exact .inl rt
      · exact .inr ⟨p', xs, ds, e1, e2, Sub.new hz _ _ e3, e4⟩) nd, isAny_kit e5, q _ _ _ (R1.laid hz) s1 (.bl _)⟩
end
end IP
end
section
set_option Elab.async false
set_option linter.all false
set_option maxRecDepth 100000
set_option maxHeartbeats 400000
namespace IP
open PySem L2
section
variable {X : Cx} {K : PySem.W.Frag}
/-! ### builtins -/
theorem one {H0 H : Hp} {vs : List V} {d : D} (h : RelTAll K H0 H vs [d]) : ∃ v, vs = [v] ∧ RelT K H0 H v d := by
  cases h with
  | cons h t =>
    cases t
    exact ⟨_, rfl, h⟩
theorem two {H0 H : Hp} {vs : List V} {d e : D} (h : RelTAll K H0 H vs [d, e]) : ∃ v w, vs = [v, w] ∧ RelT K H0 H v d ∧ RelT K H0 H w e := by
  cases h with
  | cons h t =>
    obtain ⟨w, rfl, h2⟩ := one t
    exact ⟨_, _, rfl, h, h2⟩
abbrev rLenQ (K : PySem.W.Frag) : List V → Hp → VK → Prop := fun xs H Q => ∃ p ys, xs = [.ref p] ∧ (SqL K H p ys ∨ SqT K H p ys) ∧ Q (.int ys.length) H
theorem s_len : BiS K (rLenQ K) biLen := by
  intro G H0 H δ σ vs ds res eK R r e Q q
  subst eK
  unfold biLen at e
  split at e
  · cases e
    obtain ⟨v, rfl, h⟩ := one r
    obtain ⟨p, xs, rfl, h1, h2⟩ := relT_list R.sub h
    exact ⟨p, xs, rfl, .inl (SqL.of h1), q _ _ _ R (Sub.refl _) (by rw [h2.length]; exact .int _)⟩
  · cases e
    obtain ⟨v, rfl, h⟩ := one r
    obtain ⟨p, xs, rfl, h1, h2⟩ := relT_tup h
    exact ⟨p, xs, rfl, .inr (SqT.sub R.sub h1), q _ _ _ R (Sub.refl _) (by rw [h2.length]; exact .int _)⟩
  · cases e
    obtain ⟨v, rfl, h⟩ := one r
    obtain ⟨p, ns, rfl, h1, rfl⟩ := relT_scr h
    refine ⟨p, _, rfl, .inl (SqL.sub R.sub h1), q _ _ _ R (Sub.refl _) ?_⟩
    rw [List.length_map, List.length_map]
    exact .int _
  · cases e
abbrev rInt1 : List V → Hp → VK → Prop := fun xs H Q => (∃ i, xs = [.int i] ∧ Q (.int i) H) ∨ ∃ k, xs = [.bl k] ∧ Q (.int (if k then 1 else 0)) H
theorem s_int1 : BiS K rInt1 biInt := by
  intro G H0 H δ σ vs ds res eK R r e Q q
  unfold biInt at e
  split at e
  · cases e
    obtain ⟨v, rfl, h⟩ := one r
    obtain rfl := relT_int h
    exact .inl ⟨_, rfl, q _ _ _ R (Sub.refl _) (.int _)⟩
  · cases e
    obtain ⟨v, rfl, h⟩ := one r
    obtain rfl := relT_bool h
    exact .inr ⟨_, rfl, q _ _ _ R (Sub.refl _) (.int _)⟩
  · cases e
abbrev rTupO (K : PySem.W.Frag) : List V → Hp → VK → Prop := fun xs H Q => ∃ p ys, xs = [.ref p] ∧ ((SqL K H p ys ∧ ∀ l, H l = none → Q (.ref l) (upd H l (.tup ys))) ∨ (SqT K H p ys ∧ Q (.ref p) H))
theorem s_tupO : BiS K (rTupO K) biTuple := by
  intro G H0 H δ σ vs ds res eK R r e Q q
  subst eK
  unfold biTuple at e
  split at e
  · cases e
    obtain ⟨v, rfl, h⟩ := one r
    obtain ⟨p, xs, rfl, h1, h2⟩ := relT_list R.sub h
    refine ⟨p, xs, rfl, .inl ⟨SqL.of h1, fun z hz => ?_⟩⟩
    obtain ⟨R4, s4⟩ := R.laid0 (o := .tup xs) hz
    exact q _ _ _ R4 s4 (.tup (SqT.of upd_same) (h2.sub s4))
  · cases e
    obtain ⟨v, rfl, h⟩ := one r
    obtain ⟨p, xs, rfl, h1, h2⟩ := relT_tup h
    exact ⟨p, xs, rfl, .inr ⟨SqT.sub R.sub h1, q _ _ _ R (Sub.refl _) (.tup h1 h2)⟩⟩
  · cases e
abbrev rLstO (K : PySem.W.Frag) : List V → Hp → VK → Prop := fun xs H Q => ∃ p ys, xs = [.ref p] ∧ (SqL K H p ys ∨ SqT K H p ys) ∧ ∀ l, H l = none → Q (.ref l) (upd H l (.lst ys))
theorem s_lstO : BiS K (rLstO K) biList := by
  intro G H0 H δ σ vs ds res eK R r e Q q
  subst eK
  have fin : ∀ xs es, RelAll G.K H0 xs es → res = .new es → ∀ l, H l = none → Q (.ref l) (upd H l (.lst xs)) := by
    rintro xs es h2 rfl z hz
    have f := R.fresh hz
    exact q _ _ _ (R.laid hz) (Sub.refl _) ⟨z, _, rfl, upd_same, h2, f.1, f.2.1, f.2.2⟩
  unfold biList at e
  split at e
  · cases e
    obtain ⟨v, rfl, h⟩ := one r
    obtain ⟨p, xs, rfl, h1, h2⟩ := relT_list R.sub h
    exact ⟨p, xs, rfl, .inl (SqL.of h1), fin _ _ h2 rfl⟩
  · cases e
    obtain ⟨v, rfl, h⟩ := one r
    obtain ⟨p, xs, rfl, h1, h2⟩ := relT_tup h
    exact ⟨p, xs, rfl, .inr (SqT.sub R.sub h1), fin _ _ h2 rfl⟩
  · cases e
theorem s_sum : BiS K (rSum K) biSum := by
  intro G H0 H δ σ vs ds res eK R r e Q q
  subst eK
  unfold biSum at e
  split at e
  · simp only [Option.map_eq_some_iff] at e
    obtain ⟨is, e1, rfl⟩ := e
    obtain ⟨v, rfl, h⟩ := one r
    obtain ⟨p, xs, rfl, h1, h2⟩ := relT_list R.sub h
    obtain rfl := h2.ints e1
    exact ⟨p, is, rfl, SqL.of h1, q _ _ _ R (Sub.refl _) (.int _)⟩
  · cases e
theorem s_all : BiS K (rAll K) biAll := by
  intro G H0 H δ σ vs ds res eK R r e Q q
  subst eK
  unfold biAll at e
  split at e
  · simp only [Option.map_eq_some_iff] at e
    obtain ⟨is, e1, rfl⟩ := e
    obtain ⟨v, rfl, h⟩ := one r
    obtain ⟨p, xs, rfl, h1, h2⟩ := relT_list R.sub h
    obtain rfl := h2.bools e1
    exact ⟨p, is, rfl, SqL.of h1, q _ _ _ R (Sub.refl _) (.bl _)⟩
  · cases e
theorem s_any : BiS K (rAny K) biAny := by
  intro G H0 H δ σ vs ds res eK R r e Q q
  subst eK
  unfold biAny at e
  split at e
  · simp only [Option.map_eq_some_iff] at e
    obtain ⟨is, e1, rfl⟩ := e
    obtain ⟨v, rfl, h⟩ := one r
    obtain ⟨p, xs, rfl, h1, h2⟩ := relT_list R.sub h
    obtain rfl := h2.bools e1
    exact ⟨p, is, rfl, SqL.of h1, q _ _ _ R (Sub.refl _) (.bl _)⟩
  · cases e
abbrev rMax2Q : List V → Hp → VK → Prop := fun xs H Q => ∃ i j, xs = [.int i, .int j] ∧ Q (.int (if j > i then j else i)) H
abbrev rMin2Q : List V → Hp → VK → Prop := fun xs H Q => ∃ i j, xs = [.int i, .int j] ∧ Q (.int (if j < i then j else i)) H
theorem s_max2 : BiS K rMax2Q biMax := by
  intro G H0 H δ σ vs ds res eK R r e Q q
  unfold biMax at e
  split at e
  · cases e
    obtain ⟨v, w, rfl, h, h'⟩ := two r
    obtain rfl := relT_int h
    obtain rfl := relT_int h'
    exact ⟨_, _, rfl, q _ _ _ R (Sub.refl _) (.int _)⟩
  · cases e
theorem s_min2 : BiS K rMin2Q biMin := by
  intro G H0 H δ σ vs ds res eK R r e Q q
  unfold biMin at e
  split at e
  · cases e
    obtain ⟨v, w, rfl, h, h'⟩ := two r
    obtain rfl := relT_int h
    obtain rfl := relT_int h'
    exact ⟨_, _, rfl, q _ _ _ R (Sub.refl _) (.int _)⟩
  · cases e

/-! ### a def keeps its promise -/
theorem fn_read {F : Fn} {N : List Str} {vs : List V} {H : Hp} {Q : VK} {E : XK} (hN : N.length = F.names) (hle : F.nps ≤ F.names) (h : spI K F.run vs H Q E) : kS K F.body { nx := fun _ H' => Q .non H', rt := Q } (L2.start N vs) H := by
  obtain ⟨H0, ds, r, s0, h⟩ := h
  have sn : ∀ (i : Nat) (v : V), vs[i]? = some v → (L2.start N vs)[i]? = some (some v) := fun i v e => by
    unfold L2.start
    have hl : i < vs.length := (List.getElem?_eq_some_iff.mp e).1
    rw [List.getElem?_append_left (by rw [List.length_map]; exact hl), List.getElem?_map, e]
    rfl
  rcases h with ⟨ra, e, q⟩ | ⟨p, xs, xds, yds, ws, rfl, ra, hp, rx, hp0, e, q⟩
  · simp only [Fn.run] at e
    split at e
    · rename_i hb hr
      cases hr
    · rename_i hb hr
      split at e
      · rename_i hlen
        simp only [Option.bind_eq_some_iff] at e
        obtain ⟨δ0, e0, ⟨o, δ1⟩, e1, r', e2, e3⟩ := e
        cases e0
        let G : Gx := ⟨K, H, H0, []⟩
        have hvl : vs.length = ds.length := ra.length
        have dl : ∀ (i : Nat) (s : Slot), (ds.map Slot.dat ++ List.replicate (F.names - F.nps) .un)[i]? = some s → s = .un ∨ ∃ d, s = .dat d ∧ ds[i]? = some d := fun i s e => by
          by_cases hi : i < ds.length
          · rw [List.getElem?_append_left (by rw [List.length_map]; exact hi), List.getElem?_map] at e
            simp only [Option.map_eq_some_iff] at e
            obtain ⟨d, h1, h2⟩ := e
            exact .inr ⟨d, h2.symm, h1⟩
          · rw [List.getElem?_append_right (by rw [List.length_map]; omega)] at e
            exact .inl (List.eq_of_mem_replicate (List.mem_of_getElem? e))
        have R : Rl G H0 H (ds.map Slot.dat ++ List.replicate (F.names - F.nps) .un) (L2.start N vs) := by
          refine ⟨?_, s0, Sub.refl _, fun a o e _ => e, fun a o e => .inl ⟨o, e⟩, fun i s es => ?_, fun i j p hi _ => ?_, fun z hz => nomatch hz⟩
          · unfold L2.start
            rw [List.length_append, List.length_append, List.length_map, List.length_map, List.length_replicate, List.length_replicate]
            omega
          · rcases dl i s es with rfl | ⟨d, rfl, h1⟩
            · trivial
            · obtain ⟨v, h2, h3⟩ := ra.get h1
              exact ⟨v, sn i v h2, h3⟩
          · obtain ⟨⟨s, h1, h2⟩, _⟩ := hi
            rcases dl i s h1 with rfl | ⟨d, rfl, _⟩ <;> cases h2
        refine ⟨G, H0, _, o, δ1, rfl, R, e1, fun τ A H1 R1 s1 => ?_⟩
        have fin : ∀ v, RetOk K H A H1 r' v → r' = r → Q v H1 := fun v k er => by
          subst er
          exact q v A H1 s1 R1.sub (fun a o e => R1.keep a o e fun z hz => nomatch hz) R1.fro k
        have er : r' = r := by
          dsimp only at e3
          split at e3
          · rename_i hb' _
            rw [hb] at hb'
            cases hb'
          · cases e3
            rfl
          · cases e3
        cases o with
        | nx =>
          cases e2
          exact fin .non .non er
        | rt r0 =>
          cases e2
          intro v k
          refine fin v ?_ er
          cases r' with
          | dat d => exact k
          | new es =>
            obtain ⟨z, us, y1, y2, y3, y4, y5, _⟩ := k
            exact ⟨z, us, y1, y2, y3, y4, y5⟩
        | bk => cases e2
        | ct => cases e2
      · cases e
    · cases e
  · simp only [Fn.run] at e
    split at e
    · rename_i xs' hb hr
      cases hr
      split at e
      · rename_i hlen
        simp only [Option.bind_eq_some_iff] at e
        obtain ⟨δ0, e0, ⟨o, δ1⟩, e1, r', e2, e3⟩ := e
        cases e0
        let G : Gx := ⟨K, H, H0, [(0, p)]⟩
        have hvl : ws.length = ds.length := ra.length
        have dl : ∀ (i : Nat) (s : Slot), (ds.map Slot.dat ++ List.replicate (F.names - F.nps) .un)[i]? = some s → s = .un ∨ ∃ d, s = .dat d ∧ ds[i]? = some d := fun i s e => by
          by_cases hi : i < ds.length
          · rw [List.getElem?_append_left (by rw [List.length_map]; exact hi), List.getElem?_map] at e
            simp only [Option.map_eq_some_iff] at e
            obtain ⟨d, h1, h2⟩ := e
            exact .inr ⟨d, h2.symm, h1⟩
          · rw [List.getElem?_append_right (by rw [List.length_map]; omega)] at e
            exact .inl (List.eq_of_mem_replicate (List.mem_of_getElem? e))
        have R : Rl G H0 H (Slot.prm xds :: (ds.map Slot.dat ++ List.replicate (F.names - F.nps) .un)) (L2.start N (.ref p :: ws)) := by
          refine ⟨?_, s0, Sub.refl _, fun a o e _ => e, fun a o e => .inl ⟨o, e⟩, fun i s es => ?_, fun i j p' hi hj => ?_, fun z hz => ?_⟩
          · unfold L2.start
            simp only [List.length_append, List.length_cons, List.length_map, List.length_replicate]
            omega
          · cases i with
            | zero =>
              cases es
              exact ⟨p, xs, sn 0 _ rfl, List.mem_singleton.mpr rfl, hp, rx, hp0⟩
            | succ i =>
              rw [List.getElem?_cons_succ] at es
              rcases dl i s es with rfl | ⟨d, rfl, h1⟩
              · trivial
              · obtain ⟨v, h2, h3⟩ := ra.get h1
                exact ⟨v, sn (i + 1) v (by rw [List.getElem?_cons_succ]; exact h2), h3⟩
          · have zero : ∀ i, Holds (Slot.prm xds :: (ds.map Slot.dat ++ List.replicate (F.names - F.nps) .un)) (L2.start N (.ref p :: ws)) i p' → i = 0 := fun i ⟨⟨s, h1, h2⟩, _⟩ => by
              cases i with
              | zero => rfl
              | succ i =>
                rw [List.getElem?_cons_succ] at h1
                rcases dl i s h1 with rfl | ⟨d, rfl, _⟩ <;> cases h2
            rw [zero i hi, zero j hj]
          · obtain rfl := List.mem_singleton.mp hz
            exact ⟨xds, rfl, sn 0 _ rfl⟩
        refine ⟨G, H0, _, o, δ1, rfl, R, e1, fun τ A H1 R1 s1 => ?_⟩
        dsimp only at e3
        split at e3
        · rename_i ys hb' hpr
          cases e3
          obtain ⟨es, z1, z2⟩ := R1.prs (0, p) (List.mem_singleton.mpr rfl)
          have z1' : δ1[0]? = some (.prm es) := z1
          rw [hpr] at z1'
          cases z1'
          obtain ⟨p', us, w1, w0, w2, w3, w4⟩ := R1.slot 0 _ hpr
          rw [z2] at w1
          cases w1
          have fin : ∀ v, RetOk K H A H1 r v → Q v H1 := fun v k =>
            q v A H1 us s1 R1.sub (fun a o e ha => R1.keep a o e fun z hz => by
              obtain rfl := List.mem_singleton.mp hz
              exact fun h => ha h.symm) R1.fro w2 w3 w4 k
          cases o with
          | nx =>
            cases e2
            exact fin .non .non
          | rt r0 =>
            cases e2
            intro v k
            refine fin v ?_
            cases r with
            | dat d => exact k
            | new es =>
              obtain ⟨z, us, y1, y2, y3, y4, y5, _⟩ := k
              exact ⟨z, us, y1, y2, y3, y4, y5⟩
          | bk => cases e2
          | ct => cases e2
        · cases e3
        · cases e3
      · cases e
    · rename_i hb hr
      cases hr
    · cases e
theorem spI_len {F : Fn} {ps : List Str} (hl : ps.length = F.nps) {vs : List V} {H : Hp} {Q : VK} {E : XK} (h : spI K F.run vs H Q E) : vs.length = ps.length := by
  obtain ⟨H0, ds, r, s0, h⟩ := h
  rw [hl]
  rcases h with ⟨ra, e, q⟩ | ⟨p, xs, xds, yds, ws, rfl, ra, hp, rx, hp0, e, q⟩
  · simp only [Fn.run] at e
    split at e
    · rename_i hb hr
      cases hr
    · split at e
      · rename_i h
        rw [ra.length, h]
      · cases e
    · cases e
  · simp only [Fn.run] at e
    split at e
    · split at e
      · rename_i h
        rw [List.length_cons, ra.length, h]
      · cases e
    · rename_i hb hr
      cases hr
    · cases e
end
end IP
end
section
set_option Elab.async false
set_option linter.all false
set_option maxRecDepth 100000
set_option maxHeartbeats 400000
namespace IP
open PySem L2
section
variable {X : Cx} {K : PySem.W.Frag} {a b c : Expr} {f g h : Eo} {pos : Pos}
theorem flat_ints (is : List Int) : (is.map V.int).all flatV = true := by
  induction is with
  | nil => rfl
  | cons i is ih => rw [List.map_cons, List.all_cons, ih] <;> rfl
theorem in_ints (i : Int) (is : List Int) : inV (.int i) (is.map V.int) = decide (i ∈ is) := by
  unfold inV
  induction is with
  | nil => rfl
  | cons j is ih =>
    rw [List.map_cons, List.any_cons, ih]
    by_cases h : j = i
    · subst h
      have : eqV (.int j) (.int j) = true := by simp [eqV]
      rw [this]
      simp
    · have : eqV (.int j) (.int i) = false := by simp [eqV, h]
      rw [this, Bool.false_or]
      have h' : ¬ i = j := fun e => h e.symm
      simp [h']
theorem s_in : OpS K (rIn K false) bIn := by
  intro G H0 H δ σ x y dx dy res eK R rx ry e Q q
  subst eK
  unfold bIn at e
  split at e
  · simp only [Option.map_eq_some_iff] at e
    obtain ⟨is, e1, rfl⟩ := e
    obtain rfl := relT_int rx
    obtain ⟨p, xs, rfl, h1, h2⟩ := relT_list R.sub ry
    obtain rfl := h2.ints e1
    refine ⟨p, _, rfl, .inl (SqL.of h1), rfl, flat_ints _, ?_⟩
    rw [if_neg Bool.false_ne_true, in_ints]
    exact q _ _ _ R (Sub.refl _) (.bl _)
  · simp only [Option.map_eq_some_iff] at e
    obtain ⟨is, e1, rfl⟩ := e
    obtain rfl := relT_int rx
    obtain ⟨p, xs, rfl, h1, h2⟩ := relT_tup ry
    obtain rfl := h2.ints e1
    refine ⟨p, _, rfl, .inr (SqT.sub R.sub h1), rfl, flat_ints _, ?_⟩
    rw [if_neg Bool.false_ne_true, in_ints]
    exact q _ _ _ R (Sub.refl _) (.bl _)
  · cases e
theorem s_notIn : OpS K (rIn K true) bNotIn := by
  intro G H0 H δ σ x y dx dy res eK R rx ry e Q q
  subst eK
  unfold bNotIn at e
  split at e
  · simp only [Option.map_eq_some_iff] at e
    obtain ⟨is, e1, rfl⟩ := e
    obtain rfl := relT_int rx
    obtain ⟨p, xs, rfl, h1, h2⟩ := relT_list R.sub ry
    obtain rfl := h2.ints e1
    refine ⟨p, _, rfl, .inl (SqL.of h1), rfl, flat_ints _, ?_⟩
    rw [if_pos rfl, in_ints]
    exact q _ _ _ R (Sub.refl _) (.bl _)
  · simp only [Option.map_eq_some_iff] at e
    obtain ⟨is, e1, rfl⟩ := e
    obtain rfl := relT_int rx
    obtain ⟨p, xs, rfl, h1, h2⟩ := relT_tup ry
    obtain rfl := h2.ints e1
    refine ⟨p, _, rfl, .inr (SqT.sub R.sub h1), rfl, flat_ints _, ?_⟩
    rw [if_pos rfl, in_ints]
    exact q _ _ _ R (Sub.refl _) (.bl _)
  · cases e
/-- constants of the module -/
theorem x_globI {x : Str} {i : Int} (hg : Gl X x) (hm : ∃ t, X.mg x = some (.int i t)) (hdb : (x == ("__debug__" : Str)) = false := by decide) : XV X (.Name x pos) (vC (.int i)) := by
  obtain ⟨t, e⟩ := hm
  exact x_glob hg e (v := .int i) ⟨t, rfl⟩ (fun _ => .int i) hdb
theorem x_globT {x : Str} {is : List Int} {p : Addr} (hg : Gl X x) (hm : X.mg x = some (.ref p)) (ht : ∀ H, SqT X.K H p (is.map V.int)) (hdb : (x == ("__debug__" : Str)) = false := by decide) : XV X (.Name x pos) (vC (.tuple (is.map .int))) :=
  x_glob hg hm (v := .ref p) rfl (fun H => .tup (ht H) relAll_ints) hdb
/-- a chain as a test -/
theorem x_chainT {o1 o2 : CmpOp} {r1 r2 : R2} {p1 p2 : D → D → Option Res} (h1 : OpR X (compareOp o1) r1) (h2 : OpR X (compareOp o2) r2) (s1 : OpS X.K r1 p1) (s2 : OpS X.K r2 p2) (ha : XO X a f) (hb : XO X b g) (hc : XO X c h)
    (hm : lastMarks [o1, o2] [b, c] = false := by with_unfolding_all rfl) : XT X (.Compare a [o1, o2] [b, c] pos) (tB (vChain p1 p2 f g h)) :=
  (pt_chain h1 h2 ha hb hc hm).weak fun σ H Q ⟨G, H0, δ, res, δ', eK, R, e, q⟩ => by
    simp only [IP.tB, Option.bind_eq_some_iff] at e
    obtain ⟨⟨r, δ1⟩, e0, e00⟩ := e
    simp only [vChain, Option.bind_eq_some_iff] at e0
    obtain ⟨⟨o1, δ1'⟩, e1, ⟨o2, δ2⟩, e2, dx, e3, dy, e4, r', e5, e6⟩ := e0
    refine ⟨G, H0, δ, o1, δ1', eK, R, e1, fun v H0' H' R1 s1' k1 => ?_⟩
    refine ⟨G, H0', δ1', o2, δ2, eK, R1, e2, fun w H0'' H'' R2 s2' k2 => ?_⟩
    refine s1 G H0'' H'' δ2 σ v w dx dy r' eK R2 (R2.rd (k1.sub s2') e3) (R2.rd k2 e4) e5 _ fun z A B R3 s3 k3 => ?_
    cases r' with
    | new _ => cases e6
    | dat d =>
      cases d with
      | bool t =>
        cases k3
        cases t with
        | false =>
          cases e6
          cases e00
          exact ⟨false, rfl, iteF ⟨false, rfl, q A B R3 ((s1'.trans s2').trans s3)⟩⟩
        | true =>
          simp only [Option.bind_eq_some_iff, Option.map_eq_some_iff] at e6
          obtain ⟨⟨o3, δ3⟩, e7, dy', e8, dz, e9, r'', e10, e11⟩ := e6
          cases e11
          refine ⟨true, rfl, iteT ?_⟩
          refine ⟨G, A, δ2, o3, δ3, eK, R3, e7, fun u A' B' R4 s4 k4 => ?_⟩
          refine s2 G A' B' δ3 σ w u dy' dz _ eK R4 (R4.rd ((k2.sub s3).sub s4) e8) (R4.rd k4 e9) e10 _ fun z C C' R5 s5 k5 => ?_
          cases r with
          | new _ => cases e00
          | dat d =>
            cases d with
            | bool k =>
              cases e00
              cases k5
              exact ⟨_, rfl, q C C' R5 ((((s1'.trans s2').trans s3).trans s4).trans s5)⟩
            | _ => cases e00
      | _ => cases e6
end
end IP
end
section
set_option Elab.async false
set_option linter.all false
set_option maxRecDepth 100000
set_option maxHeartbeats 2000000
/-! enumerate(tuple). -/
namespace PySem
open AutoSeq1 (wpAny_loadPart')
theorem meets_enumerate_newT (l : Addr) (items : Array Value) :
    Meets (Builtin.«enumerate.__new__» ⟨[.type "enumerate", .ref l], []⟩) (fun _ R s => s.heap.IsTuple l items ∧
      R (.ok (.ret (.ref (s.heap.push { cls := .type "tuple_iterator", data := .fields #[.ref l, .int 0 0] }).objs.size)))
        { s with heap := (s.heap.push { cls := .type "tuple_iterator", data := .fields #[.ref l, .int 0 0] }).push { cls := .type "enumerate", data := .fields #[.none, .bool false, .ref s.heap.objs.size, rawInt 0, .none, .none] } }) :=
  .of_wp fun prog w A R s h => by
    obtain ⟨hp, g, d, tk, os⟩ := s; obtain ⟨hl, h⟩ := h
    have hsub := sub_enumerate
    have hL : Heap.IsTuple (Shared.heap ⟨hp, g, d, tk, os⟩) l items := hl
    wp_walk
    refine wpAny_stack_any fun st => wpAny_pure ?_
    split
    · rename_i c _ _ _ _ _
      cases (c == Value.type "enumerate")
      · wp_walk using wpAny_pyIter_tuple hL
        exact ⟨_, rfl, h⟩
      · wp_walk using wpAny_pyIter_tuple hL
        exact ⟨_, rfl, h⟩
    · wp_walk using wpAny_pyIter_tuple hL
      exact ⟨_, rfl, h⟩
section
variable {prog : Program} {w : World} {A : Around} {E : Value → Shared → Prop} {s : Shared}
theorem call_enumerate_tuple {l : Addr} {items : Array Value} {Q : Value → Shared → Prop} (hL : s.heap.IsTuple l items)
    (h : ∀ h', IsEnum h' (s.heap.objs.size + 1) s.heap.objs.size 0 .none → h'.IsTupleIter s.heap.objs.size l 0 → h'.objs.size = s.heap.objs.size + 2 →
      (∀ b o, s.heap.get? b = some o → h'.get? b = some o) → Q (.ref (s.heap.objs.size + 1)) { s with heap := h' }) :
    wpAny (model prog w) A (call (.type "enumerate") [.ref l]) Q E s := by
  refine callType_new F.called_enumerate (by decide) (F.typeCall_enumerate_1 _) (F.newCall_enumerate_1 _) (fun obj => F.args_object_init_2 obj _) F.entry_enumerate_new
    (meets_enumerate_newT l items) ⟨hL, ?_⟩
  have hz : (s.heap.push { cls := .type "tuple_iterator", data := .fields #[.ref l, .int 0 0] }).objs.size = s.heap.objs.size + 1 := Heap.size_push ..
  show _ ∧ _
  rw [hz]
  have he : IsEnum ((s.heap.push { cls := .type "tuple_iterator", data := .fields #[.ref l, .int 0 0] }).push
      { cls := .type "enumerate", data := .fields #[.none, .bool false, .ref s.heap.objs.size, rawInt 0, .none, .none] }) (s.heap.objs.size + 1) s.heap.objs.size 0 .none := by
    have := Heap.get?_push_size (s.heap.push { cls := .type "tuple_iterator", data := .fields #[.ref l, .int 0 0] })
      (o := { cls := .type "enumerate", data := .fields #[.none, .bool false, .ref s.heap.objs.size, rawInt 0, .none, .none] }) rfl
    rw [hz] at this; exact this
  refine ⟨⟨_, he, rfl⟩, h _ he ⟨_, Heap.get?_push_of_some _ (Heap.get?_push_size _ rfl), rfl, rfl⟩ (by rw [Heap.size_push, hz]) fun b o x => Heap.get?_push_of_some _ (Heap.get?_push_of_some _ x)⟩
end
end PySem
namespace L2
open PySem PySem.Spec PyProof.Rows
def IteT (K : PySem.W.Frag) (a : Addr) : It :=
  ⟨fun i H => ∃ (xs : List V) (x : V), SqT K H a xs ∧ xs[i]? = some x, fun i H v H' => ∃ T x, v = .ref T ∧ H T = none ∧ H' = upd H T (.tup [.int (i : Nat), x]) ∧ ∀ xs, SqT K H a xs → xs[i]? = some x, fun i H => ∃ xs : List V, SqT K H a xs ∧ xs.length ≤ i⟩
theorem turn_enumT {P : Program} {w : World} {K : PySem.W.Frag} {elts : List Expr} {kk : Nat} {tpos : Pos} (a e it : Addr) (hai : a ≠ it) (hae : a ≠ e) :
    Turn P w K (.Tuple elts kk tpos) (IteT K a) [e, it] e (fun i h => (∃ old, IsEnum h e it ((i : Nat) : Int) old) ∧ h.IsTupleIter it a i ∧ e ≠ it) where
  mem := by simp
  obj := fun i h st b hb => by
    obtain ⟨⟨old, he⟩, ⟨o, ho, hc, hd⟩, _⟩ := st
    have e' : b = e ∨ b = it := by simpa using hb
    rcases e' with z | z
    · rw [z]; exact ⟨_, he, fun v q => nomatch q⟩
    · rw [z]; exact ⟨o, ho, fun v q => by rw [hd] at q; cases q⟩
  keep := fun i h h' st k => let ⟨⟨old, he⟩, hi, hne⟩ := st; ⟨⟨old, k e (by simp) _ he⟩, hi.at fun o q => k it (by simp) o q, hne⟩
  item := by
    intro X hP hw hK hc i pins s σ H E I hf st hg
    subst hP hw hK
    obtain ⟨⟨old, he⟩, hit, hne⟩ := st
    obtain ⟨xs, x, hq, hx⟩ := hg
    obtain ⟨its, rv, p, hz⟩ := I.tuple hq
    obtain ⟨u, hu, ru⟩ := rv.get hx
    have hel : e < s.heap.objs.size := Heap.lt_size he
    have hil : it < s.heap.objs.size := by obtain ⟨_, q, _⟩ := hit; exact Heap.lt_size q
    have hiu : i < its.length := (List.getElem?_eq_some_iff.mp hu).1
    have hh : X.A.in1.handled = none := I.ok.hd hc
    refine wpAny_pyNext_enum_itemD (Draws.tuple (prog := X.prog) (w := X.w) (A := X.A.in1) hh it a hai its.toArray) he ⟨hit, p⟩ (by simpa using hiu) hne (by simp [hne, Ne.symm hae]) fun x' h' tk hP ho st' hT hsz hk => ?_
    have ex : x' = u := by
      have h1 : its[i]? = some x' := by simpa using hP
      rw [hu] at h1
      exact (Option.some.inj h1).symm
    subst ex
    refine ⟨_, rfl, wpAny_letOwnedTupleGo_enum (s := { s with heap := h', toks := tk + 1 }) ho fun h'' he' sb => ?_⟩
    have hT2 : h''.get? s.heap.objs.size = some { cls := .type "tuple", data := .seq #[.int i tk, x'] } := (sb.2 _ (Nat.ne_of_gt hel)).trans hT
    have new : ObjOk X.prog X.w (upd H s.heap.objs.size (.tup [.int (i : Nat), x])) h'' s.heap.objs.size (.tup [.int (i : Nat), x]) :=
      ⟨by show 2 ≤ sizeLine; decide, [.int i tk, x'], .cons ⟨_, rfl⟩ (.cons ru .nil), ⟨_, hT2, rfl, _, rfl⟩⟩
    have I1 : Inv X pins σ (upd H s.heap.objs.size (.tup [.int (i : Nat), x])) { s with heap := h'', toks := tk + 1 } :=
      I.turnedNew (t' := tk + 1) (ch := [e, it]) (fun b ob hb q => (sb.2 b (fun z => hb (by simp [z]))).trans (hk b ob (fun z => hb (by simp [z])) (fun z => hb (by simp [z])) q)) hf (Nat.le_refl _) new
    refine ⟨.ref s.heap.objs.size, _, I1, rfl, ⟨_, x, rfl, I.hok.fresh (Nat.le_refl _), rfl, fun ys hy => by rw [I.tuple_inj hy hq]; exact hx⟩, ⟨⟨x', ?_⟩, st'.1.at fun o q => (sb.2 it (Ne.symm hne)).trans q, hne⟩, fun b hb => ?_⟩
    · have e1 : ((i + 1 : Nat) : Int) = (i : Int) + 1 := by omega
      rw [e1]; exact he'
    · have hb' : b < s.heap.objs.size := by
        have e' : b = e ∨ b = it := by simpa using hb
        rcases e' with z | z
        · rw [z]; exact hel
        · rw [z]; exact hil
      rw [upd_ne (Nat.ne_of_lt hb')]
      exact (hf b hb).1
  done := by
    intro X hP hw hK hc i pins s σ H E I hf st hg
    subst hP hw hK
    obtain ⟨⟨old, he⟩, hit, hne⟩ := st
    obtain ⟨xs, hq, hx⟩ := hg
    obtain ⟨its, rv, p, hz⟩ := I.tuple hq
    obtain ⟨f0, f1, f2, f3, f4, f5⟩ := hf it (by simp)
    have hl := rv.length
    have hT : s.TypeIs (.ref e) "enumerate" := ⟨_, he, rfl⟩
    unfold pyNext
    refine wpAny_bind (wpAny_attempt (wpAny_callSpecial?_slot (name := Str.ofString "__next__") hT PySem.F.slot_enumerate_next
      (wpAny_call_entry PySem.F.slot_enumerate_next hT PySem.F.entry_enumerate_next ?_ (PySem.F.args_enumerate_next_1 _))))
    show wpAny _ _ (field (.ref e) 2 >>= _) _ _ _
    refine wpAny_bind (wpAny_field he rfl (x := .ref it) rfl ?_)
    refine wpAny_bind (wpAny_nextOf_tuple_end (I.ok.hd hc) hit p (by simp; omega) fun h' x he' hx' => ?_)
    obtain ⟨o, ho, hc⟩ := hx'
    refine wpAny_bind (wpAny_isInstance (T := "StopIteration") (b := true) ⟨o, ho, hc⟩ isSubtype_stop ?_)
    exact wpAny_pure ⟨rfl, I.turned (t' := s.toks) (fun b o hb q => he' b o hb q) f0 f1 f3 f4 f5⟩
  self := fun A i s Q E st h => let ⟨⟨_, he⟩, _⟩ := st; wpAny_pyIter_enum he h
def iEnumT (K : PySem.W.Frag) (ta : TA) : TI := fun σ H R => ta σ H fun vs H1 => ∃ a xs, vs = [.ref a] ∧ SqT K H1 a xs ∧ R (IteT K a) H1
theorem pi_enumT {X : Cx} {e : Expr} {ta : TA} {p pos tpos : Pos} {elts : List Expr} {kk : Nat} (hg : Gl X "enumerate") (hm : X.mg "enumerate" = none) (ha : PA X [e] ta) (hs : starEach [e] X.env = [(false, eval e X.env)] := by rfl) :
    PI X (.Tuple elts kk tpos) (.Call (.Name "enumerate" p) [e] [] pos) (iEnumT X.K ta) := by
  refine ⟨fun pins s σ H R I h => ?_⟩
  refine Call_ (ld_blt I hg hm boot_enumerate (PyProof.Rows.callWith_type1 (thn (ha.run pos pins s σ H _ I h) fun us s1 ⟨vs, H1, I1, r1, q1⟩ => ?_) hs rfl))
  obtain ⟨a, xs, ex, hq, q⟩ := q1
  subst ex
  cases r1 with
  | cons r rr =>
    cases rr
    cases r
    obtain ⟨its, rv, p', hz⟩ := I1.tuple hq
    have hal : a < s1.heap.objs.size := by obtain ⟨_, q, _⟩ := p'; exact Heap.lt_size q
    refine call_enumerate_tuple (items := its.toArray) p' fun h' he hit hsz hk => wpAny_pyIter_enum he ?_
    have I2 : Inv X pins σ H1 { s1 with heap := h' } := I1.kept (t' := s1.toks) hk
    refine ⟨s1.heap.objs.size + 1, [s1.heap.objs.size + 1, s1.heap.objs.size], _, _, H1, rfl, I2, turn_enumT a (s1.heap.objs.size + 1) s1.heap.objs.size (Nat.ne_of_lt hal) (Nat.ne_of_lt (Nat.lt_succ_of_lt hal)), ⟨⟨.none, he⟩, hit, Nat.succ_ne_self _⟩, fun b hb => ?_, q⟩
    have e' : b = s1.heap.objs.size + 1 ∨ b = s1.heap.objs.size := by simpa using hb
    have hle : s1.heap.objs.size ≤ b := by
      rcases e' with z | z
      · rw [z]; exact Nat.le_add_right _ _
      · rw [z]; exact Nat.le_refl _
    exact I1.fpOk hle (I1.hok.fresh hle)
end L2
end
section
set_option Elab.async false
set_option linter.all false
set_option maxRecDepth 100000
set_option maxHeartbeats 400000
namespace IP
open PySem L2 RZ
section
variable {X : Cx} {K : PySem.W.Frag} {tg e e2 : Expr} {f g : Eo} {pos p : Pos}
theorem pair_laid {G : Gx} {A H : Hp} {δ : Env} {τ : L2.St} {T : Addr} {x y : V} {dx dy : D} (R : Rl G A H δ τ) (hT : H T = none) (r1 : Rel G.K A x dx) (r2 : Rel G.K A y dy) :
    ∃ B, Rl G B (upd H T (.tup [x, y])) δ τ ∧ Sub A B ∧ Sub H (upd H T (.tup [x, y])) ∧ Fro A H B ∧ Rel G.K B (.ref T) (.tuple [dx, dy]) := by
  obtain ⟨R4, s4⟩ := R.laid0 (o := .tup [x, y]) hT
  refine ⟨_, R4, s4, Sub.new hT, fun a o e => ?_, .tup (SqT.of upd_same) (.cons (r1.sub s4) (.cons (r2.sub s4) .nil))⟩
  by_cases ha : a = T
  · subst ha
    exact .inr hT
  · rw [upd_ne ha] at e
    exact .inl ⟨o, e⟩
theorem enumD_get : ∀ {xs : List D} {k i : Nat}, (enumD k xs)[i]? = (xs[i]?).map fun d => .tuple [.int ((k + i : Nat) : Int), d]
  | [], _, i => by simp [enumD]
  | x :: xs, k, 0 => by simp [enumD]
  | x :: xs, k, i + 1 => by
    rw [enumD, List.getElem?_cons_succ, List.getElem?_cons_succ, enumD_get]
    rw [show k + 1 + i = k + (i + 1) by omega]
theorem enumD_length : ∀ (xs : List D) (k : Nat), (enumD k xs).length = xs.length
  | [], _ => rfl
  | x :: xs, k => by rw [enumD, List.length_cons, List.length_cons, enumD_length xs]
theorem iw_enumT {G : Gx} {H0 : Hp} {σ : L2.St} {p : Addr} {ys : List V} {xs : List D} (h : SqT G.K H0 p ys) (r : RelAll G.K H0 ys xs) {ow : Option Nat} : IW G H0 σ (IteT G.K p) (enumD 0 xs) ow where
  goes := fun i A H δ τ R s hk st hi => by
    have hl : i < ys.length := by
      rw [enumD_length] at hi
      rw [r.length]
      exact hi
    exact ⟨ys, ys[i], SqT.sub R.sub (SqT.sub s h), by simp [hl]⟩
  stops := fun A H δ τ R s hk st => ⟨ys, SqT.sub R.sub (SqT.sub s h), by rw [enumD_length, r.length]; exact Nat.le_refl _⟩
  yields := fun i A H δ τ x H' R s hk st hi y => by
    obtain ⟨T, z, rfl, hT, rfl, hz⟩ := y
    obtain ⟨d, h1, h2⟩ := r.getV (hz ys (SqT.sub R.sub (SqT.sub s h)))
    obtain ⟨B, a1, a2, a3, a4, a5⟩ := pair_laid R hT (.int ((i : Nat) : Int)) (h2.sub s)
    exact ⟨B, _, a1, a2, a3, a4, by rw [enumD_get, h1, Nat.zero_add]; rfl, a5⟩
theorem still_len {δ : Env} {xs : List D} {ow : Option Nat} (h : still δ (enumD 0 xs) ow = true) (hn : ow = none) : still δ xs ow = true := by
  subst hn
  rfl
theorem iw_enumL {G : Gx} {H0 : Hp} {σ : L2.St} {p : Addr} {xs : List D} (h : Rel G.K H0 (.ref p) (.list xs)) : IW G H0 σ (Ite G.K p) (enumD 0 xs) none where
  goes := fun i A H δ τ R s hk st hi => by
    cases h with
    | lst h1 h2 =>
      rename_i ys
      have hl : i < ys.length := by
        rw [enumD_length] at hi
        rw [h2.length]
        exact hi
      exact ⟨ys, ys[i], SqL.of (R.sub _ _ (s _ _ h1)), by simp [hl]⟩
  stops := fun A H δ τ R s hk st => by
    cases h with
    | lst h1 h2 => exact ⟨_, SqL.of (R.sub _ _ (s _ _ h1)), by rw [enumD_length, h2.length]; exact Nat.le_refl _⟩
  yields := fun i A H δ τ x H' R s hk st hi y => by
    cases h with
    | lst h1 h2 =>
      obtain ⟨T, z, rfl, hT, rfl, hz⟩ := y
      obtain ⟨d, h3, h4⟩ := h2.getV (hz _ (SqL.of (R.sub _ _ (s _ _ h1))))
      obtain ⟨B, a1, a2, a3, a4, a5⟩ := pair_laid R hT (.int ((i : Nat) : Int)) (h4.sub s)
      exact ⟨B, _, a1, a2, a3, a4, by rw [enumD_get, h3, Nat.zero_add]; rfl, a5⟩
/-- enumerate(e), e data -/
theorem xi_enum {elts : List Expr} {kk : Nat} {tpos : Pos} (hg : Gl X "enumerate") (hm : X.mg "enumerate" = none) (ha : XO X e f) (hs : starEach [e] X.env = (false, eval e X.env) :: starEach [] X.env := by rfl) : XI X (.Tuple elts kk tpos) (.Call (.Name "enumerate" p) [e] [] pos) (iEnum f) :=
  PI.or_ (pi_enum hg hm (pa_cons ha pa_nil hs) hs) (pi_enumT hg hm (pa_cons ha pa_nil hs) hs) fun σ H Rr ⟨G, H0, δ, xs, ow, δ', eK, R, e0, q⟩ => by
    simp only [iEnum, Option.bind_eq_some_iff] at e0
    obtain ⟨⟨o, δ1⟩, e1, e2⟩ := e0
    cases o with
    | «at» i => cases e2
    | val d =>
      cases d with
      | list ds =>
        cases e2
        refine .inl ⟨G, H0, δ, _, _, eK, R, e1, fun v H0' H' R1 s1 k1 => ?_⟩
        have k1' : Rel G.K H0' v (.list ds) := k1
        cases k1' with
        | lst h1 h2 => exact ⟨_, _, rfl, SqL.of (R1.sub _ _ h1), by rw [← eK]; exact q _ _ _ R1 s1 (iw_enumL (.lst h1 h2))⟩
      | tuple ds =>
        cases e2
        refine .inr ⟨G, H0, δ, _, _, eK, R, e1, fun v H0' H' R1 s1 k1 => ?_⟩
        have k1' : Rel G.K H0' v (.tuple ds) := k1
        cases k1' with
        | tup h1 h2 => exact ⟨_, _, rfl, by rw [← eK]; exact SqT.sub R1.sub h1, by rw [← eK]; exact q _ _ _ R1 s1 (iw_enumT h1 h2)⟩
      | _ => cases e2
theorem zipD_get : ∀ {xs ys : List D} {i : Nat}, (zipD xs ys)[i]? = (xs[i]?).bind fun x => (ys[i]?).map fun y => .tuple [x, y]
  | [], ys, i => by simp [zipD]
  | x :: xs, [], i => by
    rw [zipD]
    · cases (x :: xs)[i]? <;> simp
    · simp
  | x :: xs, y :: ys, 0 => by simp [zipD]
  | x :: xs, y :: ys, i + 1 => by rw [zipD, List.getElem?_cons_succ, List.getElem?_cons_succ, List.getElem?_cons_succ, zipD_get]
theorem zipD_length : ∀ (xs ys : List D), (zipD xs ys).length = min xs.length ys.length
  | [], ys => by simp [zipD]
  | x :: xs, [] => by simp [zipD]
  | x :: xs, y :: ys => by
    rw [zipD, List.length_cons, List.length_cons, List.length_cons, zipD_length xs ys]
    omega
theorem iw_zipT {G : Gx} {H0 : Hp} {σ : L2.St} {p q : Addr} {us vs : List V} {xs ys : List D} (h1 : SqT G.K H0 p us) (r1 : RelAll G.K H0 us xs) (h2 : SqT G.K H0 q vs) (r2 : RelAll G.K H0 vs ys) : IW G H0 σ (ItzT G.K p q) (zipD xs ys) none where
  goes := fun i A H δ τ R s hk st hi => by
    rw [zipD_length] at hi
    have l1 := r1.length
    have l2 := r2.length
    exact ⟨us, vs, us[i], vs[i], SqT.sub R.sub (SqT.sub s h1), SqT.sub R.sub (SqT.sub s h2), by simp, by simp⟩
  stops := fun A H δ τ R s hk st => ⟨us, vs, SqT.sub R.sub (SqT.sub s h1), SqT.sub R.sub (SqT.sub s h2), by
    rw [zipD_length, r1.length, r2.length]
    omega⟩
  yields := fun i A H δ τ x H' R s hk st hi y => by
    obtain ⟨T, z, w, rfl, hT, rfl, hz, hw⟩ := y
    obtain ⟨d, a1, a2⟩ := r1.getV (hz us (SqT.sub R.sub (SqT.sub s h1)))
    obtain ⟨d', b1, b2⟩ := r2.getV (hw vs (SqT.sub R.sub (SqT.sub s h2)))
    obtain ⟨B, c1, c2, c3, c4, c5⟩ := pair_laid R hT (a2.sub s) (b2.sub s)
    exact ⟨B, _, c1, c2, c3, c4, by rw [zipD_get, a1, b1]; rfl, c5⟩
theorem iw_zipL {G : Gx} {H0 : Hp} {σ : L2.St} {p q : Addr} {xs ys : List D} (h1 : Rel G.K H0 (.ref p) (.list xs)) (h2 : Rel G.K H0 (.ref q) (.list ys)) : IW G H0 σ (Itz G.K p q) (zipD xs ys) none := by
  cases h1 with
  | lst h1 r1 =>
    cases h2 with
    | lst h2 r2 =>
      rename_i us vs
      exact {
        goes := fun i A H δ τ R s hk st hi => by
          rw [zipD_length] at hi
          have l1 := r1.length
          have l2 := r2.length
          exact ⟨us, vs, us[i], vs[i], SqL.of (R.sub _ _ (s _ _ h1)), SqL.of (R.sub _ _ (s _ _ h2)), by simp, by simp⟩
        stops := fun A H δ τ R s hk st => ⟨us, vs, SqL.of (R.sub _ _ (s _ _ h1)), SqL.of (R.sub _ _ (s _ _ h2)), by
          rw [zipD_length, r1.length, r2.length]
          omega⟩
        yields := fun i A H δ τ x H' R s hk st hi y => by
          obtain ⟨T, z, w, rfl, hT, rfl, hz, hw⟩ := y
          obtain ⟨d, a1, a2⟩ := r1.getV (hz us (SqL.of (R.sub _ _ (s _ _ h1))))
          obtain ⟨d', b1, b2⟩ := r2.getV (hw vs (SqL.of (R.sub _ _ (s _ _ h2))))
          obtain ⟨B, c1, c2, c3, c4, c5⟩ := pair_laid R hT (a2.sub s) (b2.sub s)
          exact ⟨B, _, c1, c2, c3, c4, by rw [zipD_get, a1, b1]; rfl, c5⟩ }
theorem xi_zip {elts : List Expr} {kk : Nat} {tpos : Pos} (hg : Gl X "zip") (hm : X.mg "zip" = none) (ha : XO X e f) (hb : XO X e2 g) (hs : starEach [e, e2] X.env = (false, eval e X.env) :: starEach [e2] X.env := by rfl) (hs2 : starEach [e2] X.env = (false, eval e2 X.env) :: starEach [] X.env := by rfl)
    (h3 : (backTo pos (starEach [e2] X.env)).any (·.1) = false := by rfl) :
    XI X (.Tuple elts kk tpos) (.Call (.Name "zip" p) [e, e2] [] pos) (iZip f g) :=
  (pi_zipA hg hm (pa_cons ha (pa_cons hb pa_nil hs2) hs) hs h3).weak fun σ H Rr ⟨G, H0, δ, xs, ow, δ', eK, R, e0, q⟩ => by
    simp only [iZip, Option.bind_eq_some_iff] at e0
    obtain ⟨⟨o, δ1⟩, e1, ⟨o2, δ2⟩, e2, e3⟩ := e0
    refine ⟨G, H0, δ, o, δ1, eK, R, e1, fun v H0' H' R1 s1 k1 => ?_⟩
    refine ⟨G, H0', δ1, o2, δ2, eK, R1, e2, fun w A B R2 s2 k2 => ?_⟩
    dsimp only at e3
    split at e3
    · cases e3
      have k1' : Rel G.K A v (.list _) := Rel.sub s2 k1
      have k2' : Rel G.K A w (.list _) := k2
      cases k1' with
      | lst h1 r1 =>
        rename_i p1 us
        cases k2' with
        | lst h2 r2 =>
          rename_i p2 vs
          refine ⟨p1, p2, us, vs, rfl, .inl ⟨SqL.of (R2.sub _ _ h1), SqL.of (R2.sub _ _ h2), ?_⟩⟩
          rw [← eK]
          exact q _ _ _ R2 (s1.trans s2) (iw_zipL (.lst h1 r1) (.lst h2 r2))
    · cases e3
      have k1' : Rel G.K A v (.tuple _) := Rel.sub s2 k1
      have k2' : Rel G.K A w (.tuple _) := k2
      cases k1' with
      | tup h1 r1 =>
        rename_i p1 us
        cases k2' with
        | tup h2 r2 =>
          rename_i p2 vs
          refine ⟨p1, p2, us, vs, rfl, .inr ⟨?_, ?_, ?_⟩⟩
          · rw [← eK]
            exact SqT.sub R2.sub h1
          · rw [← eK]
            exact SqT.sub R2.sub h2
          · rw [← eK]
            exact q _ _ _ R2 (s1.trans s2) (iw_zipT h1 r1 h2 r2)
    · cases e3
theorem downD_get {hi : Int} {n i : Nat} (h : i < n) : (downD hi n)[i]? = some (.int (hi - (i : Nat))) := by
  unfold downD
  simp [h]
theorem downD_length (hi : Int) (n : Nat) : (downD hi n).length = n := by
  unfold downD
  simp
theorem iw_down {G : Gx} {H0 : Hp} {σ : L2.St} {hi : Int} {n : Nat} : IW G H0 σ (Itc hi (-1) n) (downD hi n) none where
  goes := fun i A H δ τ R s hk st h => by
    rw [downD_length] at h
    exact h
  stops := fun A H δ τ R s hk st => by
    rw [downD_length]
    exact Nat.le_refl n
  yields := fun i A H δ τ x H' R s hk st h y => by
    obtain ⟨rfl, rfl⟩ := y
    rw [downD_length] at h
    refine ⟨A, _, R, Sub.refl _, Sub.refl _, Fro.refl, downD_get h, ?_⟩
    rw [show hi + (i : Int) * -1 = hi - (i : Int) by omega]
    exact .int _
/-- range(a, b, -1) -/
theorem xi_down {a b : Expr} {u : Nat} {p1 p2 : Pos} (hg : Gl X "range") (hm : X.mg "range" = none) (ha : XO X a f) (hb : XO X b g)
    (hs : starEach [a, b, .UnaryOp .USub (.Constant (.int 1) u p1) p2] X.env = (false, eval a X.env) :: starEach [b, .UnaryOp .USub (.Constant (.int 1) u p1) p2] X.env := by rfl)
    (hs2 : starEach [b, .UnaryOp .USub (.Constant (.int 1) u p1) p2] X.env = (false, eval b X.env) :: starEach [.UnaryOp .USub (.Constant (.int 1) u p1) p2] X.env := by rfl)
    (hs3 : starEach [.UnaryOp .USub (.Constant (.int 1) u p1) p2] X.env = (false, eval (.UnaryOp .USub (.Constant (.int 1) u p1) p2) X.env) :: starEach [] X.env := by rfl)
    (h4 : (backTo pos (starEach [b, .UnaryOp .USub (.Constant (.int 1) u p1) p2] X.env)).any (·.1) = false := by rfl) :
    XI X tg (.Call (.Name "range" p) [a, b, .UnaryOp .USub (.Constant (.int 1) u p1) p2] [] pos) (iDown f g) :=
  (pi_range3 hg hm (pa_cons ha (pa_cons hb (pa_cons (pe_un un_neg pe_int) pa_nil hs3) hs2) hs) hs h4).weak fun σ H Rr ⟨G, H0, δ, xs, ow, δ', eK, R, e0, q⟩ => by
    simp only [iDown, Option.bind_eq_some_iff] at e0
    obtain ⟨⟨o, δ1⟩, e1, ⟨o2, δ2⟩, e2, e3⟩ := e0
    refine ⟨G, H0, δ, o, δ1, eK, R, e1, fun v H0' H' R1 s1 k1 => ?_⟩
    refine ⟨G, H0', δ1, o2, δ2, eK, R1, e2, fun w A B R2 s2 k2 => ?_⟩
    cases o with
    | «at» i => cases e3
    | val d =>
      cases d with
      | int j =>
        cases o2 with
        | «at» i => cases e3
        | val d =>
          cases d with
          | int l =>
            dsimp only at e3
            split at e3
            · rename_i hj
              cases e3
              cases k1
              cases k2
              exact ⟨1, rfl, j, l, -1, (j - l).toNat, rfl, RgC.neg (by omega) (by omega) (by omega) (by omega), q _ _ _ R2 (s1.trans s2) iw_down⟩
            · cases e3
          | _ => cases e3
      | _ => cases e3
end
end IP
end
section
set_option Elab.async false
set_option linter.all false
set_option maxRecDepth 100000
set_option maxHeartbeats 400000
namespace IP
open PySem L2
theorem spI_none {K : PySem.W.Frag} {vs : List V} {H : Hp} {Q : VK} {E : XK} (h : spI K (fun _ _ => none) vs H Q E) : False := by
  obtain ⟨_, _, _, _, h⟩ := h
  rcases h with ⟨_, e, _⟩ | ⟨_, _, _, _, _, _, _, _, _, _, e, _⟩
  · cases e
  · cases e
theorem fn_none {P : Program} {w : World} {K : PySem.W.Frag} {mg : Str → Option Value} {base : Heap} {f : Addr} {fd : FuncData} {ps : List Str} : FnOk P w K mg base CX0 0 f fd ps (spI K fun _ _ => none) :=
  ⟨fun vs H Q E h => (spI_none h).elim, fun A outer s H args us vs Q E _ _ _ _ h => (spI_none h).elim⟩
theorem law_end {K : PySem.W.Frag} {c : Fnc} {H : Hp} {a : Addr} {ns : List Int} {E : XK} (hS : SqL K H a (ns.map V.int)) (h : c none [scr ns] = some (.dat (.bool true), none)) : spI K c [.ref a] H (fun v _ => v = .bl true) E :=
  ⟨H, _, _, Sub.refl _, .inl ⟨.cons (.scr hS) .nil, h, fun v H0' H' _ _ _ _ k => by
    cases k
    rfl⟩⟩
end IP
/-! ### the head's hook, with one Bool more -/
namespace IPL
open PySem PySem.Spec PyProof.Rows L2 IP
def obsE (n : Nat) (fa : List He.Fa) (fn : List He.DefD) (ex : PySem.W.Frag → Bool) (g : Addr → Option Obj) : He.AlD × Bool := (He.obsD fa fn (He.frG g (He.asD g n)), ex (He.frG g (He.asD g n)))
def hookE (n : Nat) (fa : List He.Fa) (fn : List He.DefD) (ex : PySem.W.Frag → Bool) : PySem.W.Hook where
  α := He.AlD × Bool
  obs := fun s => obsE n fa fn ex s.heap.get?
  val := fun _ => (He.valD fn, true)
  says := fun _ h => ∃ K : PySem.W.Frag, K.In h ∧ He.SaysD fa fn K ∧ ex K = true
  of := fun _ _ e => ⟨_, He.frG_in, congrArg (fun z : He.AlD × Bool => z.1) e, congrArg (fun z : He.AlD × Bool => z.2) e⟩
  keeps := fun _ _ _ ⟨K, hK, c⟩ k => ⟨K, PySem.W.Frag.In.keeps hK k, c⟩
theorem obsE_eq {n : Nat} {fa : List He.Fa} {fn : List He.DefD} {ex : PySem.W.Frag → Bool} {g : Addr → Option Obj} {s : Shared} (h : ∀ a, g a = s.heap.get? a) : obsE n fa fn ex g = (hookE n fa fn ex).obs s := by
  have e : g = s.heap.get? := funext h
  rw [e] <;> rfl
end IPL
end
section
set_option linter.all false
/-! AugD: x[i] op= e, as a total function. -/
namespace IP
open PySem
/-- the item of the list of a variable -/
@[simp] def ownGet (δ : Env) (i : Nat) (k : Int) : Option D := match δ[i]? with
  | some (.own xs) => atD xs k
  | some (.prm xs) => atD xs k
  | _ => none
/-- x[i] op= e, of ints: the place, the item, e, the store -/
@[simp] def sAugIx (i : Nat) (ix : Eo) (op : Int → Int → Int) (f : Eo) : Es := fun δ => (if ownAt δ i = true then ix δ else none).bind fun q => match q.1 with
  | .val (.int k) => (ownGet q.2 i k).bind fun d => match d with
    | .int a => (f q.2).bind fun p => match p.1 with
      | .val (.int b) => (withOwn p.2 i fun xs => (ixN xs.length k).map fun j => xs.set j (.int (op a b))).map fun δ' => (.nx, δ')
      | _ => none
    | _ => none
  | _ => none
end IP
end
section
set_option Elab.async false
set_option linter.all false
set_option maxRecDepth 100000
set_option maxHeartbeats 400000
/-! Snd12: x[i] op= e. -/
namespace L2
open PySem PySem.Spec PyProof.Rows
theorem get_list {X : Cx} : PGet X (rIxL X.K) := by
  intro pins s σ H x y v u Q I rx ry h
  obtain ⟨p, xs, i, z, rfl, rfl, hq, he, q⟩ := h
  cases rx
  obtain ⟨t, rfl⟩ := ry
  obtain ⟨its, r, pl, hz⟩ := I.list hq
  obtain ⟨j, h1, h2, h3, h4, h5⟩ := atI_get he
  obtain ⟨w, ew, rw'⟩ := r.get h2
  have hl := r.length
  have hn := line63
  have fin : EP X pins σ Q w s := ⟨z, H, I, rw', q⟩
  by_cases h0 : 0 ≤ i
  · have hj : i.toNat = j := by
      rw [seqIndex_of h0 h5] at h1
      exact Option.some.inj h1
    exact wpAny_getItem_list pl.isList h0 (by omega) (by rw [hj]; simpa using ew) fin
  · have hj : (i + (its.toArray.size : Int)).toNat = j := by
      rw [seqIndex_neg (by omega) h4] at h1
      rw [List.size_toArray, ← hl]
      exact Option.some.inj h1
    exact wpAny_getItem_list_neg pl.isList (by omega) (by rw [List.size_toArray] <;> omega) (by omega) (by rw [hj]; simpa using ew) fin
end L2
namespace IP
open PySem L2
section
variable {X : Cx} {K : PySem.W.Frag} {e : Expr} {f g : Eo} {pos : Pos}
theorem ownGet_at {G : Gx} {A H : Hp} {δ : Env} {σ : L2.St} {i : Nat} {k : Int} {d : D} {p : Addr} (R : Rl G A H δ σ) (e : ownGet δ i k = some d) (hp : σ[i]? = some (some (.ref p))) : ∃ ws u, H p = some (.lst ws) ∧ atI ws k = some u ∧ Rel G.K A u d := by
  unfold ownGet at e
  cases es : δ[i]? with
  | none =>
    rw [es] at e
    cases e
  | some s =>
    rw [es] at e
    have sj := R.slot i s es
    cases s with
    | own ds =>
      obtain ⟨p', vs, h1, h2, h3⟩ := sj
      rw [hp] at h1
      cases h1
      obtain ⟨u, h4, h5⟩ := atD_rel h3.1 e
      exact ⟨vs, u, h2, h4, h5⟩
    | prm ds =>
      obtain ⟨p', vs, h1, _, h2, h3⟩ := sj
      rw [hp] at h1
      cases h1
      obtain ⟨u, h4, h5⟩ := atD_rel h3.1 e
      exact ⟨vs, u, h2, h4, h5⟩
    | _ => cases e
theorem xs_augIx {i : Nat} {y : Str} {py tp : Pos} {ie : Expr} {op : Operator} {b : Int → Int → Int} (hv : PE X (.Name y py) (tVar i)) (hi : XO X ie g) (h : XO X e f) (ho : PIp X op (ipI b))
    (ha : ∀ ov iv new, augStore ie ov iv new = (do holding [new, ov, iv] (setItem ov iv new); release [new, ov, iv] []; pure .next) := by intros; rfl) :
    XS X (.AugAssign (.Subscript (.Name y py) ie tp) op e pos) (sAugIx i g b f) :=
  (ps_augS hv hi get_list h ho set_list ha).weak fun D σ H ⟨G, H0, δ, o, δ', eK, R, e, q⟩ => by
    simp only [sAugIx, Option.bind_eq_some_iff] at e
    obtain ⟨⟨o2, δ2⟩, e1, e3⟩ := e
    split at e1
    · rename_i hown
      obtain ⟨p, vs, hp, hl⟩ := own_ref R hown
      refine ⟨.ref p, hp, G, H0, δ, o2, δ2, eK, R, e1, fun w A2 H2 R2 s2 k2 => ?_⟩
      cases o2 with
      | «at» _ => cases e3
      | val d2 =>
        cases d2 with
        | int k =>
          cases k2
          simp only [Option.bind_eq_some_iff] at e3
          obtain ⟨d, e4, e5⟩ := e3
          cases d with
          | int a =>
            simp only [Option.bind_eq_some_iff] at e5
            obtain ⟨⟨o3, δ3⟩, e6, e7⟩ := e5
            obtain ⟨ws, u, x1, x2, x3⟩ := ownGet_at R2 e4 hp
            cases x3
            refine ⟨p, ws, k, .int a, rfl, rfl, SqL.of x1, x2, G, A2, δ2, o3, δ3, eK, R2, e6, fun w3 A3 H3 R3 s3 k3 => ?_⟩
            cases o3 with
            | «at» _ => cases e7
            | val d3 =>
              cases d3 with
              | int c =>
                cases k3
                simp only [Option.map_eq_some_iff] at e7
                obtain ⟨δ4, e8, e9⟩ := e7
                cases e9
                obtain ⟨p', xs, ws', ys, y1, y2, y3, y4, y5⟩ := withOwn_at R3 e8
                rw [hp] at y1
                cases y1
                simp only [Option.map_eq_some_iff] at y4
                obtain ⟨j, y6, y7⟩ := y4
                subst y7
                refine ⟨a, c, rfl, rfl, p, ws', k, j, rfl, rfl, y2, by rw [y3.length]; exact y6, ?_⟩
                exact q σ A3 _ (y5 _ (RelAll.set (.int _) j y3)) (s2.trans s3)
              | _ => cases e7
          | _ => cases e5
        | _ => cases e3
    · cases e1
end
end IP
end
section
set_option Elab.async false
set_option linter.all false
set_option maxRecDepth 100000
set_option maxHeartbeats 400000
/-! Snd13: reversed(range(n)). -/
namespace IP
open PySem L2 RZ
section
variable {X : Cx} {K : PySem.W.Frag} {tg e : Expr} {f : Eo} {pos p p2 pos2 : Pos}
theorem xi_revR1 (hg : Gl X "reversed") (hm : X.mg "reversed" = none) (hg2 : Gl X "range") (hm2 : X.mg "range" = none) (ha : XO X e f)
    (hs : starEach [e] X.env = (false, eval e X.env) :: starEach [] X.env := by rfl)
    (hs2 : starEach [.Call (.Name "range" p2) [e] [] pos2] X.env = (false, eval (.Call (.Name "range" p2) [e] [] pos2) X.env) :: starEach [] X.env := by rfl) :
    XI X tg (.Call (.Name "reversed" p) [.Call (.Name "range" p2) [e] [] pos2] [] pos) (iRevR1 f) :=
  (pi_revR hg hm (prg_1 hg2 hm2 ha hs) hs2).weak fun σ H Rr ⟨G, H0, δ, xs, ow, δ', eK, R, e0, q⟩ => by
    simp only [iRevR1, Option.bind_eq_some_iff] at e0
    obtain ⟨⟨o, δ1⟩, e1, e2⟩ := e0
    refine ⟨G, H0, δ, o, δ1, eK, R, e1, fun v H0' H' R1 s1 k1 => ?_⟩
    cases o with
    | «at» i => cases e2
    | val d =>
      cases d with
      | int j =>
        dsimp only at e2
        split at e2
        · rename_i hj
          cases e2
          cases k1
          refine ⟨j, rfl, by omega, by omega, by omega, by omega, ?_⟩
          rw [show (0 : Int) + (((j - 0).toNat : Nat) : Int) - 1 = (j.toNat : Int) - 1 by omega, show (j - 0).toNat = j.toNat by omega]
          exact q _ _ _ R1 s1 iw_down
        · cases e2
      | _ => cases e2
end
end IP
end
section
set_option linter.all false
/-! IQ: more operations on data. -/
namespace IP
open PySem
@[simp] def bXor : D → D → Option Res
  | .int a, .int b => if 0 ≤ a ∧ 0 ≤ b then some (.dat (.int ((a.toNat ^^^ b.toNat : Nat) : Int))) else none
  | _, _ => none
@[simp] def bAnd : D → D → Option Res
  | .int a, .int b => if 0 ≤ a ∧ 0 ≤ b then some (.dat (.int ((a.toNat &&& b.toNat : Nat) : Int))) else none
  | _, _ => none
@[simp] def bShl : D → D → Option Res
  | .int a, .int k => if 0 ≤ k ∧ a.natAbs.log2 + k.toNat < 1000000 then some (.dat (.int (a * 2 ^ k.toNat))) else none
  | _, _ => none
/-- e.bit_length() -/
@[simp] def uBits : D → Option Res
  | .int a => some (.dat (.int ((if a = 0 then 0 else a.natAbs.log2 + 1 : Nat) : Int)))
  | _ => none
/-- math.gcd -/
@[simp] def biGcd : List D → Option Res
  | [.int a, .int b] => some (.dat (.int ((Nat.gcd a.natAbs b.natAbs : Nat) : Int)))
  | _ => none
/-- e[::-1] -/
@[simp] def uRev : D → Option Res
  | .list xs => some (.new xs.reverse)
  | .tuple xs => some (.dat (.tuple xs.reverse))
  | _ => none
/-- tuple(reversed(e)) -/
@[simp] def uTupRev : D → Option Res
  | .list xs => some (.dat (.tuple xs.reverse))
  | _ => none
/-- reversed(e), walked -/
@[simp] def iRevS (f : Eo) : Ei := fun δ => (f δ).bind fun p => match p.1 with
  | .val (.list xs) => some ((xs.reverse, none), p.2)
  | .val (.tuple xs) => some ((xs.reverse, none), p.2)
  | _ => none
end IP
end
section
set_option Elab.async false
set_option linter.all false
set_option maxRecDepth 100000
set_option maxHeartbeats 400000
/-! Snd14: bits, gcd, what is read backward. -/
namespace IP
open PySem L2 RZ
section
variable {K : PySem.W.Frag}
theorem s_xor : OpS K (rI0 fun i j => .int (Builtin.bitXor i j)) bXor := by
  intro G H0 H δ σ x y dx dy res eK R rx ry e Q q
  cases dx <;> cases dy <;> simp only [bXor, reduceCtorEq] at e
  split at e
  · rename_i h
    cases e
    obtain rfl := relT_int rx
    obtain rfl := relT_int ry
    exact ⟨_, _, rfl, rfl, q _ _ _ R (Sub.refl _) (by show ResOk G H0 H δ σ _ (V.int (Builtin.bitXor _ _)); rw [Bits.bitXor_pp h.1 h.2]; exact .int _)⟩
  · cases e
theorem s_and : OpS K (rI0 fun i j => .int (Builtin.bitAnd i j)) bAnd := by
  intro G H0 H δ σ x y dx dy res eK R rx ry e Q q
  cases dx <;> cases dy <;> simp only [bAnd, reduceCtorEq] at e
  split at e
  · rename_i h
    cases e
    obtain rfl := relT_int rx
    obtain rfl := relT_int ry
    exact ⟨_, _, rfl, rfl, q _ _ _ R (Sub.refl _) (by show ResOk G H0 H δ σ _ (V.int (Builtin.bitAnd _ _)); rw [PyProof.Rows.bitAnd_pp h.1 h.2]; exact .int _)⟩
  · cases e
theorem s_shl : OpS K (rI CShl fun i j => .int (i * 2 ^ j.toNat)) bShl := s_int fun a b res e => by
  cases a <;> cases b <;> simp only [bShl, reduceCtorEq, Option.some.injEq] at e
  split at e
  · rename_i h
    cases e
    refine ⟨_, _, rfl, rfl, ⟨h.1, ?_⟩, rfl⟩
    unfold Builtin.Int.intBits
    split <;> omega
  · cases e
variable {X : Cx} {tg e : Expr} {f : Eo} {pos p p2 pos2 : Pos}
theorem x_bits {apos : Pos} (ha : XO X e f) (hbase : attributeBase e "bit_length" X.env (eval e X.env) = eval e X.env := by rfl) (hline : (apos.endLine == pos.line) = true := by rfl) : XV X (.Call (.Attribute e "bit_length" apos) [] [] pos) (fUn uBits f) :=
  (pe_bits ha hbase hline).weak fun σ H Q ⟨G, H0, δ, res, δ', eK, R, e, q⟩ => by
    simp only [fUn, Option.bind_eq_some_iff, Option.map_eq_some_iff] at e
    obtain ⟨⟨o1, δ1⟩, e1, dx, e3, r', e5, e6⟩ := e
    cases e6
    refine ⟨G, H0, δ, o1, δ1, eK, R, e1, fun v H0' H' R1 s1 k1 => ?_⟩
    cases dx <;> simp only [uBits, reduceCtorEq, Option.some.injEq] at e5
    subst e5
    obtain rfl := relT_int (R1.rd k1 e3)
    refine ⟨_, rfl, ?_⟩
    rename_i i
    have ei : (Builtin.Int.intBits i : Nat) = (if i = 0 then 0 else i.natAbs.log2 + 1 : Nat) := by
      unfold Builtin.Int.intBits
      by_cases h : i = 0
      · subst h; rfl
      · rw [if_neg h, if_neg (by simpa using h)]
    rw [ei]
    exact q _ _ _ R1 s1 (.int _)
theorem s_gcd : BiS K rGcd biGcd := by
  intro G H0 H δ σ vs ds res eK R r e Q q
  unfold biGcd at e
  split at e
  · cases e
    obtain ⟨v, w, rfl, h, h'⟩ := two r
    obtain rfl := relT_int h
    obtain rfl := relT_int h'
    exact ⟨_, _, rfl, q _ _ _ R (Sub.refl _) (.int _)⟩
  · cases e
theorem x_gcd {A : Ea} {x : Str} {es : List Expr} {a : Expr} (hg : Gl X x) (hm : X.mg x = some (.builtin "math.gcd")) (ha : XA X (a :: es) A) (hdb : (x == ("__debug__" : Str)) = false := by decide)
    (h1 : starEach (a :: es) X.env = (false, eval a X.env) :: starEach es X.env := by rfl) (h2 : (backTo pos (starEach es X.env)).any (·.1) = false := by rfl) : XV X (.Call (.Name x p) (a :: es) [] pos) (vBi biGcd A) :=
  (pe_callBfun cr_gcd hg hm ha hdb h1 h2).weak fun _ _ _ h => bi_read s_gcd h
theorem s_abs : BiS K (fun xs H Q => ∃ i, xs = [.int i] ∧ Q (.int (if i < 0 then -i else i)) H) biAbs := by
  intro G H0 H δ σ vs ds res eK R r e Q q
  unfold biAbs at e
  split at e
  · cases e
    obtain ⟨v, rfl, h⟩ := one r
    obtain rfl := relT_int h
    exact ⟨_, rfl, q _ _ _ R (Sub.refl _) (.int _)⟩
  · cases e
/-! ### reversed -/
theorem iw_revT {G : Gx} {H0 : Hp} {σ : L2.St} {p : Addr} {ys : List V} {xs : List D} (h : SqT G.K H0 p ys) (r : RelAll G.K H0 ys xs) : IW G H0 σ (RT.ItvT G.K p ys.length) xs.reverse none where
  goes := fun i A H δ τ R s hk st hi => by
    rw [List.length_reverse] at hi
    have l := r.length
    exact ⟨by omega, ys, ys[ys.length - 1 - i]'(by omega), SqT.sub R.sub (SqT.sub s h), List.getElem?_eq_getElem (by omega)⟩
  stops := fun A H δ τ R s hk st => by
    rw [List.length_reverse]
    exact Nat.le_of_eq r.length
  yields := fun i A H δ τ x H' R s hk st hi y => by
    rw [List.length_reverse] at hi
    have l := r.length
    obtain ⟨rfl, hz⟩ := y
    obtain ⟨d, h1, h2⟩ := r.getV (hz ys (SqT.sub R.sub (SqT.sub s h)))
    exact ⟨A, d, R, Sub.refl _, Sub.refl _, Fro.refl, by rw [List.getElem?_reverse hi, ← l]; exact h1, h2.sub s⟩
theorem iw_revL {G : Gx} {H0 : Hp} {σ : L2.St} {p : Addr} {ys : List V} {xs : List D} (h : H0 p = some (.lst ys)) (r : RelAll G.K H0 ys xs) : IW G H0 σ (Itv G.K p ys.length) xs.reverse none where
  goes := fun i A H δ τ R s hk st hi => by
    rw [List.length_reverse] at hi
    have l := r.length
    exact ⟨by omega, ys, ys[ys.length - 1 - i]'(by omega), SqL.of (R.sub _ _ (s _ _ h)), List.getElem?_eq_getElem (by omega)⟩
  stops := fun A H δ τ R s hk st => by
    rw [List.length_reverse]
    exact Nat.le_of_eq r.length
  yields := fun i A H δ τ x H' R s hk st hi y => by
    rw [List.length_reverse] at hi
    have l := r.length
    obtain ⟨rfl, hz⟩ := y
    obtain ⟨d, h1, h2⟩ := r.getV (hz ys (SqL.of (R.sub _ _ (s _ _ h))))
    exact ⟨A, d, R, Sub.refl _, Sub.refl _, Fro.refl, by rw [List.getElem?_reverse hi, ← l]; exact h1, h2.sub s⟩
theorem xi_revS (hg : Gl X "reversed") (hm : X.mg "reversed" = none) (ha : XO X e f) (hs : starEach [e] X.env = (false, eval e X.env) :: starEach [] X.env := by rfl) : XI X tg (.Call (.Name "reversed" p) [e] [] pos) (iRevS f) :=
  (RT.pi_revA hg hm ha hs).weak fun σ H Rr ⟨G, H0, δ, xs, ow, δ', eK, R, e0, q⟩ => by
    simp only [iRevS, Option.bind_eq_some_iff] at e0
    obtain ⟨⟨o, δ1⟩, e1, e2⟩ := e0
    cases o with
    | «at» i => cases e2
    | val d =>
      cases d with
      | list ds =>
        cases e2
        refine ⟨G, H0, δ, _, _, eK, R, e1, fun v H0' H' R1 s1 k1 => ?_⟩
        have k1' : Rel G.K H0' v (.list ds) := k1
        cases k1' with
        | lst h1 h2 => exact ⟨_, _, rfl, .inl ⟨SqL.of (R1.sub _ _ h1), by rw [← eK]; exact q _ _ _ R1 s1 (iw_revL h1 h2)⟩⟩
      | tuple ds =>
        cases e2
        refine ⟨G, H0, δ, _, _, eK, R, e1, fun v H0' H' R1 s1 k1 => ?_⟩
        have k1' : Rel G.K H0' v (.tuple ds) := k1
        cases k1' with
        | tup h1 h2 => exact ⟨_, _, rfl, .inr ⟨by rw [← eK]; exact SqT.sub R1.sub h1, by rw [← eK]; exact q _ _ _ R1 s1 (iw_revT h1 h2)⟩⟩
      | _ => cases e2
theorem relAll_rev {K : PySem.W.Frag} {H : Hp} : ∀ {xs : List V} {ds : List D}, RelAll K H xs ds → RelAll K H xs.reverse ds.reverse
  | _, _, .nil => .nil
  | _, _, .cons r t => by
    rw [List.reverse_cons, List.reverse_cons]
    exact (relAll_rev t).append (.cons r .nil)
theorem x_tupRev (hc : X.calm = true) (hg : Gl X "tuple") (hm : X.mg "tuple" = none) (hg2 : Gl X "reversed") (hm2 : X.mg "reversed" = none) (ha : XO X e f)
    (hs : starEach [e] X.env = (false, eval e X.env) :: starEach [] X.env := by rfl)
    (hs2 : starEach [.Call (.Name "reversed" p2) [e] [] pos2] X.env = (false, eval (.Call (.Name "reversed" p2) [e] [] pos2) X.env) :: starEach [] X.env := by rfl) :
    XV X (.Call (.Name "tuple" p) [.Call (.Name "reversed" p2) [e] [] pos2] [] pos) (fUn uTupRev f) :=
  (RT.pe_tupRev hc hg hm hg2 hm2 ha hs hs2).weak fun σ H Q ⟨G, H0, δ, res, δ', eK, R, e, q⟩ => by
    simp only [fUn, Option.bind_eq_some_iff, Option.map_eq_some_iff] at e
    obtain ⟨⟨o1, δ1⟩, e1, dx, e3, r', e5, e6⟩ := e
    cases e6
    refine ⟨G, H0, δ, o1, δ1, eK, R, e1, fun v H0' H' R1 s1 k1 => ?_⟩
    cases dx <;> simp only [uTupRev, reduceCtorEq, Option.some.injEq] at e5
    subst e5
    obtain ⟨p, xs, rfl, h1, h2⟩ := relT_list R1.sub (R1.rd k1 e3)
    refine ⟨p, xs, rfl, SqL.of h1, fun z hz => ?_⟩
    obtain ⟨R4, s4⟩ := R1.laid0 (o := .tup xs.reverse) hz
    exact q _ _ _ R4 (s1.trans s4) (.tup (SqT.of upd_same) ((relAll_rev h2).sub s4))
end
end IP
namespace RevT
open PySem PySem.Spec PyProof.Rows HT
section
variable {prog : Program} {w : World} {A : Around} {E : Value → Shared → Prop} {s : Shared}
theorem sliceApplied_rev {sl : Addr} {vl vu vs : Value} {n : Nat} {Q : Int × Int × Nat → Shared → Prop} (hs : s.heap.IsSliceOf sl vl vu vs) (pl : IsPart vl none) (pu : IsPart vu none) (ps : IsPart vs (some (-1)))
    (h : Q ((n : Int) - 1, -1, n) s) : wpAny (model prog w) A (Builtin.Slice.sliceApplied (.ref sl) (pure (n : Int))) Q E s := by
  obtain ⟨os, hos, hcs, hds⟩ := id hs
  unfold Builtin.Slice.sliceApplied Builtin.Slice.sliceFields
  refine wpAny_bind (wpAny_bind (wpAny_field hos hds (x := vl) rfl (wpAny_bind (wpAny_field hos hds (x := vu) rfl (wpAny_bind (wpAny_field hos hds (x := vs) rfl (wpAny_pure ?_)))))))
  refine wpAny_bind (slicePart_ ps ?_)
  show wpAny _ _ (if ((-1 : Int) == 0) = true then _ else _) _ _ s
  rw [if_neg (by decide)]
  refine wpAny_bind (slicePart_ pl (wpAny_bind (slicePart_ pu (wpAny_bind (wpAny_pure ?_)))))
  show wpAny _ _ (pure ((n : Int) - 1, (-1 : Int), Builtin.Slice.slicePlaces ((n : Int) - 1) (-1) (-1))) _ _ s
  have hp : Builtin.Slice.slicePlaces ((n : Int) - 1) (-1) (-1) = n := by
    unfold Builtin.Slice.slicePlaces
    have h1 : ¬ ((-1 : Int) > 0) := by decide
    simp only [h1, if_false]
    split
    · rw [show (- -1 : Int) = 1 by decide, Int.ediv_one]
      omega
    · omega
  rw [hp]
  exact wpAny_pure h
theorem fm_some {α β : Type} {f : α → Option β} {g : α → β} : ∀ {l : List α}, (∀ x ∈ l, f x = some (g x)) → l.filterMap f = l.map g
  | [], _ => rfl
  | x :: l, h => by
    rw [List.filterMap_cons, h x List.mem_cons_self, List.map_cons, fm_some fun y hy => h y (List.mem_cons_of_mem _ hy)]
theorem pick_rev (xs : Array Value) : ((List.range xs.size).filterMap fun (m : Nat) => xs[(((xs.size : Int) - 1) + (m : Int) * -1).toNat]?).toArray = xs.toList.reverse.toArray := by
  congr 1
  apply List.ext_getElem?
  intro i
  have e : (List.range xs.size).filterMap (fun (m : Nat) => xs[(((xs.size : Int) - 1) + (m : Int) * -1).toNat]?) = (List.range xs.size).map fun m => xs.toList.getD (xs.size - 1 - m) .none := by
    refine fm_some fun m hm => ?_
    have hm := List.mem_range.mp hm
    have h2 : (((xs.size : Int) - 1) + (m : Int) * -1).toNat = xs.size - 1 - m := by omega
    rw [h2]
    have h3 : xs.size - 1 - m < xs.size := by omega
    simp [h3, List.getD]
  rw [e, List.getElem?_map]
  by_cases hi : i < xs.size
  · rw [List.getElem?_reverse (by simpa using hi)]
    have h3 : xs.size - 1 - i < xs.size := by omega
    simp [hi, h3, List.getD]
  · rw [List.getElem?_eq_none (by simp; omega), List.getElem?_eq_none (by simp; omega)]
    rfl
theorem getItem_tuple_rev {t sl : Addr} {items : Array Value} {vl vu vs : Value} {Q : Value → Shared → Prop} (ht : IsTup s.heap t items) (hs : s.heap.IsSliceOf sl vl vu vs) (pl : IsPart vl none) (pu : IsPart vu none) (ps : IsPart vs (some (-1)))
    (h : Q (.ref s.heap.objs.size) { s with heap := s.heap.push { cls := .type "tuple", data := .seq items.toList.reverse.toArray } })
    (hsz : items.size ≤ sizeLine) : wpAny (model prog w) A (getItem (.ref t) (.ref sl)) Q E s := by
  have htake : sizeOk (.seq items.toList.reverse.toArray) := by
    show items.toList.reverse.toArray.size ≤ sizeLine
    rw [List.size_toArray, List.length_reverse, Array.length_toList]
    exact hsz
  obtain ⟨os, hos, hcs, hds⟩ := id hs
  have hTs : s.TypeIs (.ref sl) "slice" := ⟨os, hos, hcs⟩
  unfold getItem
  try with_reducible refine wpAny_holding ?_
  first | refine wpAny_bind (wpAny_pure ?_) | skip
  refine wpAny_bind (wpAny_sequenceKey ht.typeIs (by decide) ?_)
  refine wpAny_bind (wpAny_callSpecial?_slot (name := Str.ofString "__getitem__") ht.typeIs PyProof.Rows.slot_tuple_getitem
    (wpAny_call_entry PyProof.Rows.slot_tuple_getitem ht.typeIs entry_tuple_getitem ?_ (args_tuple_getitem _ _)))
  show wpAny _ _ (Builtin.Tuple.tupleItemsOf (.ref t) >>= _) _ _ s
  refine wpAny_bind (tupleItemsOf_ ht ?_)
  refine wpAny_bind (wpAny_typeOf hTs ?_)
  rw [if_pos (by decide)]
  refine wpAny_bind (sliceApplied_rev hs pl pu ps ?_)
  show wpAny _ _ (if (((items.size : Int) - 1) == 0 && (-1 : Int) == 1 && items.size == items.size) = true then _ else _) _ _ s
  rw [if_neg (by rw [Bool.and_eq_true, Bool.and_eq_true]; intro q; exact absurd q.1.2 (by decide)), pick_rev]
  first
    | exact wpAny_bind (m := Builtin.Tuple.tupleExact _) (wpAny_newObj_type (wpAny_pure ⟨_, rfl, wpAny_pure h⟩) htake)
    | exact wpAny_bind (m := Builtin.Tuple.tupleExact _) (wpAny_newObj_type (wpAny_bind (wpAny_pure (wpAny_pure ⟨_, rfl, wpAny_pure h⟩))) htake)
end
end RevT
namespace L2
open PySem PySem.Spec PyProof.Rows
section
variable {X : Cx}
def rRevA (K : PySem.W.Frag) : V → Hp → VK → Prop := fun x H Q => ∃ a xs, x = .ref a ∧ ((SqL K H a xs ∧ ∀ z, H z = none → Q (.ref z) (upd H z (.lst xs.reverse))) ∨ (SqT K H a xs ∧ ∀ z, H z = none → Q (.ref z) (upd H z (.tup xs.reverse))))
theorem pe_revA {e : Expr} {te : TE} {k : Nat} {p1 p2 p3 pos : Pos} (he : PE X e te) : PE X (.Subscript e (.Slice none none (some (.UnaryOp .USub (.Constant (.int 1) k p1) p2)) p3) pos) (tUn (rRevA X.K) te) := by
  refine ⟨fun pins s σ H Q I h => ?_⟩
  refine Subscript_ (thn (he.run pins s σ H _ I h) fun v s1 ⟨x, H1, I1, r1, q1⟩ => ?_)
  obtain ⟨a, xs, ex, hq⟩ := q1
  subst ex
  cases r1
  have hst : PO X (some (.UnaryOp .USub (.Constant (.int 1) k p1) p2)) (tPart (tUn (rU fun i => .int (-i)) (tC (.int 1)))) := po_some (pe_un un_neg pe_int)
  refine wpAny_Slice (thn (po_none.run pins s1 σ H1 (fun o H2 => o = none ∧ H2 = H1) I1 ⟨rfl, rfl⟩) fun vl s2 ⟨l, H2, I2, pl, el, e2⟩ => ?_)
  subst el e2
  refine thn (po_none.run pins s2 σ H2 (fun o H3 => o = none ∧ H3 = H2) I2 ⟨rfl, rfl⟩) fun vu s3 ⟨u, H3, I3, pu, eu, e3⟩ => ?_
  subst eu e3
  refine thn (hst.run pins s3 σ H3 (fun o H4 => o = some (-1) ∧ H4 = H3) I3 ⟨1, rfl, -1, rfl, rfl, rfl⟩) fun vs s4 ⟨o, H4, I4, ps, eo, e4⟩ => ?_
  subst eo e4
  have I5 : Inv X pins σ H4 { s4 with heap := s4.heap.push { cls := .type "slice", data := .fields #[vl, vu, vs] } } := I4.kept (t' := s4.toks) fun b ob q => Heap.get?_push_of_some _ q
  show wpAny (model X.prog X.w) X.A (subscriptTail e (.Slice none none (some (.UnaryOp .USub (.Constant (.int 1) k p1) p2)) p3) (.ref a) (.ref s4.heap.objs.size)) (EP X pins σ Q) X.xe { s4 with heap := s4.heap.push { cls := .type "slice", data := .fields #[vl, vu, vs] } }
  rcases hq with ⟨hx, q⟩ | ⟨hx, q⟩
  · obtain ⟨its, r, ht, hz⟩ := I5.list hx
    have hlen := r.length
    refine tail_any (ops := [.ref a, .ref s4.heap.objs.size]) ht.isList.typeIs (PySem.slot_list_getitem.lookup) ?_ (by with_unfolding_all rfl)
    refine wpAny_getItem_list_slice ht.isList (Heap.IsSliceOf.new _ vl vu vs) pl pu ps (by decide) ?_ (by rw [List.size_toArray]; omega)
    rw [PySem.W.krv_pick]
    refine ⟨.ref _, _, I5.laid (t' := s4.toks) (o := .lst xs.reverse) (fun b ob q => Heap.get?_push_of_some _ q) (Nat.le_refl _) ?_, rfl, q _ (I5.hok.fresh (Nat.le_refl _))⟩
    exact ⟨by rw [List.length_reverse]; exact hz, _, 0, r.reverse, Heap.get?_push_size _ rfl⟩
  · obtain ⟨its, r, ht, hz⟩ := I5.tuple hx
    have hlen : its.toArray.size = xs.length := by rw [List.size_toArray]; exact r.length.symm
    refine tail_any (ops := [.ref a, .ref s4.heap.objs.size]) ht.typeIs (PyProof.Rows.slot_tuple_getitem.lookup) ?_ (by with_unfolding_all rfl)
    refine RevT.getItem_tuple_rev ht (Heap.IsSliceOf.new _ vl vu vs) pl pu ps ?_ (by rw [hlen]; exact hz)
    refine ⟨.ref _, _, I5.laid (t' := s4.toks) (o := .tup xs.reverse) (fun b ob q => Heap.get?_push_of_some _ q) (Nat.le_refl _) ?_, rfl, q _ (I5.hok.fresh (Nat.le_refl _))⟩
    exact ⟨by rw [List.length_reverse]; exact hz, _, r.reverse, IsTup.new _ _⟩
end
end L2
namespace IP
open PySem L2 RZ
section
variable {K : PySem.W.Frag}
theorem s_rev : UnS K (rRevA K) uRev := by
  intro G H0 H δ σ x dx res eK R rx e Q q
  subst eK
  cases dx <;> simp only [uRev, reduceCtorEq, Option.some.injEq] at e
  · subst e
    obtain ⟨p, xs, rfl, h1, h2⟩ := relT_list R.sub rx
    refine ⟨p, xs, rfl, .inl ⟨SqL.of h1, fun z hz => ?_⟩⟩
    have f := R.fresh hz
    exact q _ _ _ (R.laid hz) (Sub.refl _) ⟨z, _, rfl, upd_same, relAll_rev h2, f.1, f.2.1, f.2.2⟩
  · subst e
    obtain ⟨p, xs, rfl, h1, h2⟩ := relT_tup rx
    refine ⟨p, xs, rfl, .inr ⟨SqT.sub R.sub h1, fun z hz => ?_⟩⟩
    obtain ⟨R4, s4⟩ := R.laid0 (o := .tup xs.reverse) hz
    exact q _ _ _ R4 s4 (.tup (SqT.of upd_same) ((relAll_rev h2).sub s4))
variable {X : Cx} {e : Expr} {f : Eo} {pos p2 : Pos}
theorem x_rev {k : Nat} {p1 p3 : Pos} (ha : XO X e f) : XV X (.Subscript e (.Slice none none (some (.UnaryOp .USub (.Constant (.int 1) k p1) p2)) p3) pos) (fUn uRev f) :=
  (pe_revA ha).weak fun _ _ _ h => un_read s_rev h
end
end IP
end
section
set_option linter.all false
/-! IR: further operations on data; comprehensions with two fors. -/
namespace IP
open PySem
@[simp] def biSum2 : List D → Option Res
  | [.list xs] => (intsOf xs).map fun is => .dat (.int is.sum)
  | [.tuple xs] => (intsOf xs).map fun is => .dat (.int is.sum)
  | _ => none
/-- the turns of a comprehension with two fors -/
def lc2Go (vs vs1 : List Nat) (g : Tg) (t : Et) (it1 : Ei) (g1 : Tg) (t1 : Et) (e : Ev) (src : List D) (ow : Option Nat) : List D → Env → Option (List D × Env)
  | [], δ => if still δ src ow = true then some ([], δ) else none
  | x :: xs, δ => if still δ src ow = true then (g.put x δ).bind fun δ1 => (t δ1).bind fun p => if p.1 = true then
      (it1 p.2).bind fun q => (unAll vs1 q.2).bind fun δ2 => (lcGo vs1 g1 t1 e q.1.1 q.1.2 q.1.1 δ2).bind fun r =>
        (unAll vs r.2).bind fun δ3 => (lc2Go vs vs1 g t it1 g1 t1 e src ow xs δ3).map fun z => (r.1 ++ z.1, z.2)
    else (unAll vs p.2).bind fun δ2 => lc2Go vs vs1 g t it1 g1 t1 e src ow xs δ2 else none
@[simp] def vLc2 (vs vs1 : List Nat) (it : Ei) (g : Tg) (t : Et) (it1 : Ei) (g1 : Tg) (t1 : Et) (e : Ev) : Ev := fun δ => (it δ).bind fun p => (unAll vs p.2).bind fun δ1 =>
  (lc2Go vs vs1 g t it1 g1 t1 e p.1.1 p.1.2 p.1.1 δ1).bind fun q => if q.1.length ≤ line then some (.new q.1, backAll p.2 vs q.2) else none
end IP
end
section
set_option Elab.async false
set_option linter.all false
set_option maxRecDepth 100000
set_option maxHeartbeats 2000000
/-! Snd15: sums of tuples, several values stored at once by way of a tuple, comprehensions with two fors. -/
namespace IP
open PySem L2
section
variable {X : Cx} {K : PySem.W.Frag}
def rSum2 (K : PySem.W.Frag) : List V → Hp → VK → Prop := fun vs H Q => ∃ (a : Addr) (ns : List Int), vs = [V.ref a] ∧ (SqL K H a (ns.map V.int) ∨ SqT K H a (ns.map V.int)) ∧ Q (.int ns.sum) H
theorem cr_sum2 (hc : X.calm = true) : CallR X (.builtin "sum") (rSum2 X.K) := by
  intro pins s σ H vs us Q I r h
  obtain ⟨a, ns, rfl, hs, q⟩ := h
  rcases hs with hs | hs
  · exact cr_sum hc pins s σ H _ us Q I r ⟨a, ns, rfl, hs, q⟩
  · obtain ⟨its, rv, hl, _⟩ := I.tuple hs
    rw [Vals.ref1 r]
    obtain ⟨xs, e⟩ := rv.ints.allInts.items
    have hn : numsOf (PySem.intItems xs).toList = ns := by rw [← e]; exact rv.ints.numsOf
    rw [PySem.nums_intItems] at hn
    rw [e] at hl
    refine PySem.W.ktm_sumG (I.ok.hd hc) (show s.heap.IsTuple a (PySem.intItems xs) from ?_) fun h' tk t' hk => ?_
    · obtain ⟨o, h1, h2, n, h3⟩ := hl
      exact ⟨o, h1, h2, n, h3⟩
    · have := q
      rw [← hn] at this
      rw [preSum_eq, List.take_of_length_le (by simp)]
      exact ⟨.int _, H, I.kept hk, ⟨_, rfl⟩, this⟩
theorem s_sum2 : BiS K (rSum2 K) biSum2 := by
  intro G H0 H δ σ vs ds res eK R r e Q q
  subst eK
  unfold biSum2 at e
  split at e
  · simp only [Option.map_eq_some_iff] at e
    obtain ⟨is, e1, rfl⟩ := e
    obtain ⟨v, rfl, h⟩ := one r
    obtain ⟨p, xs, rfl, h1, h2⟩ := relT_list R.sub h
    obtain rfl := h2.ints e1
    exact ⟨p, is, rfl, .inl (SqL.of h1), q _ _ _ R (Sub.refl _) (.int _)⟩
  · simp only [Option.map_eq_some_iff] at e
    obtain ⟨is, e1, rfl⟩ := e
    obtain ⟨v, rfl, h⟩ := one r
    obtain ⟨p, xs, rfl, h1, h2⟩ := relT_tup h
    obtain rfl := h2.ints e1
    exact ⟨p, is, rfl, .inr (SqT.sub R.sub h1), q _ _ _ R (Sub.refl _) (.int _)⟩
  · cases e
/-! ### a, b = e1, e2 by way of a tuple -/
theorem gss_all {t : TGs} {is : List Nat} (h : GSs K t is) : ∀ (σ : L2.St) (H : Hp) (vs : List V) (Q : L2.St → Hp → Prop), vs.length = is.length → Q (setAll σ is vs) H → t vs σ H Q := by
  induction h with
  | nil =>
    intro σ H vs Q hl q
    cases vs with
    | nil => exact ⟨rfl, q⟩
    | cons _ _ => simp at hl
  | cons h ih =>
    intro σ H vs Q hl q
    cases vs with
    | nil => simp at hl
    | cons v vs => exact ⟨v, vs, rfl, ih _ _ _ _ (by simpa using hl) q⟩
theorem pend_laid {G : Gx} {A H : Hp} {δ : Env} {σ : L2.St} {p : Addr} {o : HO} (hp : H p = none) : ∀ {rs : List Res} {vs : List V}, Pend G A H δ σ rs vs → Pend G A (upd H p o) δ σ rs vs
  | [], [], _ => trivial
  | r :: rs, v :: vs, ⟨h1, h2, h3⟩ => by
    refine ⟨?_, pend_laid hp h2, h3⟩
    cases r with
    | dat d => exact h1
    | new ds =>
      obtain ⟨q, ws, x1, x2, x3⟩ := h1
      exact ⟨q, ws, x1, Sub.new hp _ _ x2, x3⟩
theorem xs_parT {es es' : List Expr} {t : TGs} {is : List Nat} {fs : List Ev} {j j' : Nat} {pos tp tp' : Pos} {n : Nat} (hg : PG X (.Tuple es j tp) (gTup X.K n t)) (hn : n = is.length) (gs : GSs X.K t is) (h : PA X es' (kR X.K fs)) (hf : fs.length = is.length ∧ is.length ≤ 100)
    (hs : swapsWithSole [.Tuple es j tp] (.Tuple es' j' tp') pos.line X.env = pure false := by rfl) (hw : swappedStores [.Tuple es j tp] (.Tuple es' j' tp') X.env = pure none := by rfl)
    (h1 : (assignEach [.Tuple es j tp] X.env).map (·.2) = [assign (.Tuple es j tp) X.env] := by rfl) : XS X (.Assign [.Tuple es j tp] (.Tuple es' j' tp') pos) (sPar is fs) := (ps_asg (pe_tup h) hg hs hw h1).weak fun D σ H ⟨G, H0, δ, o, δ', eK, R, e, q⟩ => by
  simp only [sPar, Option.bind_eq_some_iff, Option.map_eq_some_iff] at e
  obtain ⟨⟨rs, δ1⟩, e1, δ2, e2, e3⟩ := e
  cases e3
  refine ⟨G, H0, δ, rs, δ1, eK, R, e1, fun vs A H1 R1 s1 k => ?_⟩
  have hl := pend_length k
  rw [pEvs_length e1] at hl
  refine ⟨by rw [sizeLine_eq]; omega, fun p hp => ?_⟩
  refine ⟨p, vs, rfl, SqT.of upd_same, by omega, ?_⟩
  exact gss_all gs σ _ vs _ (by omega) (q _ A _ (Rl.storeAll (R1.laid hp) (pend_laid hp k) e2) s1)
end
end IP
end
section
set_option Elab.async false
set_option linter.all false
set_option maxRecDepth 100000
set_option maxHeartbeats 2000000
/-! Snd16: comprehensions with two fors. -/
namespace IP
open PySem L2
theorem wipe_at {i : Nat} : ∀ (τ : L2.St) (vs : List Nat), i ∈ vs → (L2.wipe τ vs)[i]? = τ[i]?.map fun _ => none := by
  intro τ vs
  induction vs with
  | nil => intro h; simp at h
  | cons v vs ih =>
    intro h
    unfold L2.wipe
    by_cases hv : v = i
    · subst hv
      by_cases hl : v < τ.length
      · rw [List.getElem?_set_self (by rw [wipe_length]; exact hl), List.getElem?_eq_getElem hl]
        rfl
      · rw [List.getElem?_eq_none (by rw [List.length_set, wipe_length]; omega), List.getElem?_eq_none (by omega)]
        rfl
    · rw [List.getElem?_set_ne hv]
      rcases List.mem_cons.mp h with z | z
      · exact absurd z.symm hv
      · exact ih z
theorem wipe_sub (τ : L2.St) {vs1 vs : List Nat} (hs : ∀ i ∈ vs1, i ∈ vs) : L2.wipe (L2.wipe τ vs1) vs = L2.wipe τ vs := by
  apply List.ext_getElem?
  intro i
  by_cases hi : i ∈ vs
  · rw [wipe_at _ _ hi, wipe_at _ _ hi]
    by_cases h1 : i ∈ vs1
    · rw [wipe_at _ _ h1]
      cases τ[i]? <;> rfl
    · rw [wipe_other h1]
  · rw [wipe_other hi, wipe_other hi, wipe_other fun h => hi (hs i h)]
/-- what is walked, whatever else is held -/
def kJ (K : PySem.W.Frag) (f : Ei) : TI := fun σ H R => ∃ G H0 δ xs ow δ', G.K = K ∧ Rl G H0 H δ σ ∧ f δ = some ((xs, ow), δ') ∧
  ∀ J H0' H', Rl G H0' H' δ' σ → Sub H0 H0' → (∀ G2 : Gx, G2.K = G.K → IW G2 H0' σ J xs ow) → R J H'
abbrev XJ (X : Cx) (tg e : Expr) (f : Ei) : Prop := PI X tg e (kJ X.K f)
section
variable {X : Cx} {K : PySem.W.Frag}
theorem iw_list2 {G : Gx} {H0 : Hp} {σ : L2.St} {p : Addr} {xs : List D} {ow : Option Nat} (h : InPlace G H0 σ p xs ow) : ∀ G2 : Gx, G2.K = G.K → IW G2 H0 σ (Itl G.K p) xs ow := fun G2 e => by
  rw [← e]
  refine iw_list ?_
  unfold InPlace at h ⊢
  cases ow with
  | none => rw [e]; exact h
  | some k => exact h
theorem iw_tup2 {G : Gx} {H0 : Hp} {σ : L2.St} {p : Addr} {ys : List V} {xs : List D} (h : SqT G.K H0 p ys) (r : RelAll G.K H0 ys xs) {ow : Option Nat} : ∀ G2 : Gx, G2.K = G.K → IW G2 H0 σ (Itt G.K p) xs ow := fun G2 e => by
  rw [← e] at h r ⊢
  exact iw_tup h r
variable {tg e e2 : Expr} {f g : Eo} {pos p : Pos}
theorem xj_seq (he : XO X e f) : XJ X tg e (iE f) := PI.or_ (pi_list he) (pi_tup he) fun σ H Rr ⟨G, H0, δ, xs, ow, δ', eK, R, e0, q⟩ => by
  simp only [iE, Option.bind_eq_some_iff, Option.map_eq_some_iff] at e0
  obtain ⟨⟨o, δ1⟩, e1, d, e2, ys, e3, e4⟩ := e0
  cases e4
  cases d with
  | list ds =>
    cases e3
    refine .inl ⟨G, H0, δ, o, δ1, eK, R, e1, fun v H0' H' R1 s1 k1 => ?_⟩
    obtain ⟨a, ys, rfl, h1, h2⟩ := seq_l R1 k1 e2
    exact ⟨a, rfl, ⟨ys, SqL.of h1⟩, by rw [← eK]; exact q _ _ _ R1 s1 (iw_list2 h2)⟩
  | tuple ds =>
    cases e3
    refine .inr ⟨G, H0, δ, o, δ1, eK, R, e1, fun v H0' H' R1 s1 k1 => ?_⟩
    obtain ⟨a, ys, rfl, h1, h2⟩ := seq_t R1 k1 e2
    exact ⟨a, rfl, ⟨ys, by rw [← eK]; exact SqT.sub R1.sub h1⟩, by rw [← eK]; exact q _ _ _ R1 s1 (iw_tup2 h1 h2)⟩
  | _ => cases e3
theorem xj_range1 (hg : Gl X "range") (hm : X.mg "range" = none) (ha : XO X e f) (hs : starEach [e] X.env = (false, eval e X.env) :: starEach [] X.env := by rfl) : XJ X tg (.Call (.Name "range" p) [e] [] pos) (iRange1 f) :=
  (pi_range1 hg hm (pa_cons ha pa_nil hs) hs).weak fun σ H Rr ⟨G, H0, δ, xs, ow, δ', eK, R, e0, q⟩ => by
    simp only [iRange1, Option.bind_eq_some_iff] at e0
    obtain ⟨⟨o, δ1⟩, e1, e2⟩ := e0
    refine ⟨G, H0, δ, o, δ1, eK, R, e1, fun v H0' H' R1 s1 k1 => ?_⟩
    cases o with
    | «at» i => cases e2
    | val d =>
      cases d with
      | int j =>
        dsimp only at e2
        split at e2
        · rename_i hj
          cases e2
          cases k1
          exact ⟨j, rfl, hj.1, hj.2, q _ _ _ R1 s1 fun _ _ => iw_range⟩
        · cases e2
      | _ => cases e2
theorem xj_range2 (hg : Gl X "range") (hm : X.mg "range" = none) (ha : XO X e f) (hb : XO X e2 g) (hs : starEach [e, e2] X.env = (false, eval e X.env) :: starEach [e2] X.env := by rfl) (hs2 : starEach [e2] X.env = (false, eval e2 X.env) :: starEach [] X.env := by rfl) : XJ X tg (.Call (.Name "range" p) [e, e2] [] pos) (iRange2 f g) :=
  (pi_range2 hg hm (pa_cons ha (pa_cons hb pa_nil hs2) hs) (by rw [hs, hs2]; rfl) hs2).weak fun σ H Rr ⟨G, H0, δ, xs, ow, δ', eK, R, e0, q⟩ => by
    simp only [iRange2, Option.bind_eq_some_iff] at e0
    obtain ⟨⟨o, δ1⟩, e1, ⟨o2, δ2⟩, e2, e3⟩ := e0
    refine ⟨G, H0, δ, o, δ1, eK, R, e1, fun v H0' H' R1 s1 k1 => ?_⟩
    refine ⟨G, H0', δ1, o2, δ2, eK, R1, e2, fun w A' B' R2 s2 k2 => ?_⟩
    cases o with
    | «at» i => cases e3
    | val d =>
      cases d with
      | int j =>
        cases o2 with
        | «at» i => cases e3
        | val d =>
          cases d with
          | int l =>
            dsimp only at e3
            split at e3
            · rename_i hj
              cases e3
              cases k1
              cases k2
              exact ⟨j, l, rfl, hj, q _ _ _ R2 (s1.trans s2) fun _ _ => iw_range⟩
            · cases e3
          | _ => cases e3
      | _ => cases e3
/-- the reading of a comprehension with two fors -/
theorem lc2_read {it it1 : Ei} {g g1 : TG} {t t1 : Tg} {tt tt1 : Et} {te : Ev} {vs vs1 : List Nat} (gs : GS K g t) (gs1 : GS K g1 t1) (hv : ∀ i ∈ t.slots, i ∈ vs) (hv1 : ∀ i ∈ t1.slots, i ∈ vs1) (hsub : ∀ i ∈ vs1, i ∈ vs) {σ : L2.St} {H : Hp} {Q : VK} (h : kE K (vLc2 vs vs1 it t tt it1 t1 tt1 te) σ H Q) : tLc2 (kI K it) g (kT K tt) (kJ K it1) g1 (kT K tt1) (kE K te) vs vs1 σ H Q := by
  obtain ⟨G, H0, δ, res, δ', eK, R, e, q⟩ := h
  simp only [vLc2, Option.bind_eq_some_iff] at e
  obtain ⟨⟨⟨xs, ow⟩, δ1⟩, e1, δ2, e2, ⟨ys, δ3⟩, e4, e5⟩ := e
  dsimp only at e2 e4 e5
  split at e5
  · rename_i hlen
    cases e5
    refine ⟨G, H0, δ, xs, ow, δ1, eK, R, e1, fun J A H1 R1 s1 iw => ?_⟩
    intro D hD
    have fr := R1.fresh hD
    have R2 : Rl G A (upd H1 D (.lst [])) δ2 (wipe σ vs) := (R1.laid hD).wipe e2
    have hD2 : Held G A (upd H1 D (.lst [])) δ2 (wipe σ vs) D [] := ⟨upd_same, fr.1, fr.2.1, (by
      intro i hi
      obtain ⟨⟨s, x1, x2⟩, x3⟩ := hi
      obtain ⟨h1, h2, h3, h4⟩ := unAll_spec e2
      by_cases hj : i ∈ vs
      · rw [h2 i hj] at x1
        cases x1
        cases x2
      · rw [h3 i hj] at x1
        rw [wipe_other hj] at x3
        exact fr.2.2 i ⟨⟨s, x1, x2⟩, x3⟩)⟩
    have hk : ∀ {δ : Env} {xs : List IP.D} {ow : Option Nat} {τ : L2.St} {vs : List Nat}, (∀ i, i ∈ vs → δ[i]? = some .un) → still δ xs ow = true → ∀ k, ow = some k → (wipe τ vs)[k]? = τ[k]? := by
      intro δ xs ow τ vs hun st k ek
      subst ek
      by_cases hj : k ∈ vs
      · simp only [still, hun k hj, slotD] at st
        cases st
      · exact wipe_other hj
    let P : Nat → Hp → Prop := fun i H => ∃ B δ acc accD zs, Rl G B H δ (wipe σ vs) ∧ Sub A B ∧ Held G B H δ (wipe σ vs) D acc ∧ RelAll G.K B acc accD ∧ (∀ i, i ∈ vs → δ[i]? = some .un) ∧ lc2Go vs vs1 t tt it1 t1 tt1 te xs ow (xs.drop i) δ = some (zs, δ3) ∧ ys = accD ++ zs ∧ i ≤ xs.length
    have stl : ∀ {i : Nat} {δ : Env} {zs : List IP.D}, lc2Go vs vs1 t tt it1 t1 tt1 te xs ow (xs.drop i) δ = some (zs, δ3) → still δ xs ow = true := by
      intro i δ zs e
      cases hd : xs.drop i with
      | nil =>
        rw [hd] at e
        unfold lc2Go at e
        split at e
        · assumption
        · cases e
      | cons _ _ =>
        rw [hd] at e
        unfold lc2Go at e
        split at e
        · assumption
        · cases e
    refine ⟨fun i m H => m = xs.length - i ∧ P i H, ⟨_, rfl, A, δ2, [], [], ys, R2, Sub.refl _, hD2, .nil, (unAll_spec e2).2.1, e4, rfl, Nat.zero_le _⟩, ?_⟩
    rintro i m H ⟨rfl, B, δ, acc, accD, zs, R3, s3, hh, ra, hun, e6, ey, hl⟩
    have st := stl e6
    by_cases hi : i < xs.length
    · refine .inr ⟨iw.goes i B H δ _ R3 s3 (hk hun st) st hi, P (i + 1), fun H' p' => ⟨_, by omega, rfl, p'⟩, fun x H' y => ?_⟩
      obtain ⟨C, d, R4, s4, sH, fr4, e7, r⟩ := iw.yields i B H δ _ x H' R3 s3 (hk hun st) st hi y
      have hh4 : Held G C H' δ (wipe σ vs) D acc := ⟨sH _ _ hh.at_, (by
        cases q : C D with
        | none => rfl
        | some o =>
          rcases fr4 D o q with ⟨u, hu⟩ | hu
          · rw [hh.a] at hu
            cases hu
          · rw [hh.at_] at hu
            cases hu), hh.g, hh.h⟩
      have R5 := R4.hold hh4.at_ hh4.a hh4.g hh4.h
      rw [List.drop_eq_getElem_cons hi] at e6
      have ed : xs[i] = d := by
        rw [List.getElem?_eq_getElem hi] at e7
        exact Option.some.inj e7
      rw [ed] at e6
      unfold lc2Go at e6
      rw [if_pos st] at e6
      simp only [Option.bind_eq_some_iff] at e6
      obtain ⟨δ4, e8, ⟨k, δ5⟩, e9, e10⟩ := e6
      refine gs (G.with D acc) C H' δ δ4 (wipe σ vs) x d eK R5 r e8 _ fun τ R6 w6 => ?_
      have ww : wipe τ vs = wipe σ vs := (w6 vs hv).trans (wipe_wipe σ vs)
      refine ⟨ww, G.with D acc, C, δ4, k, δ5, eK, R6, e9, fun C7 H7 R7 s7 => ?_⟩
      -- behind the inner loop: the names of the comprehension unset
      have back : ∀ {C9 : Hp} {H9 : Hp} {δ8 δ9 : Env} {τ' : L2.St} {acc9 : List V} {accD9 zs9 : List IP.D}, Rl G C9 H9 δ8 τ' → wipe τ' vs = wipe σ vs → Held G C9 H9 δ8 τ' D acc9 → Sub A C9 → RelAll G.K C9 acc9 accD9 → unAll vs δ8 = some δ9 →
          lc2Go vs vs1 t tt it1 t1 tt1 te xs ow (xs.drop (i + 1)) δ9 = some (zs9, δ3) → ys = accD9 ++ zs9 → P (i + 1) H9 := by
        intro C9 H9 δ8 δ9 τ' acc9 accD9 zs9 R9 w9 hh9 s9 ra9 e12 e13 ey9
        have R11 : Rl G C9 H9 δ9 (wipe σ vs) := by
          have := R9.wipe e12
          rw [w9] at this
          exact this
        have un9 := (unAll_spec e12).2.1
        have nh : ∀ j, ¬ Holds δ9 (wipe σ vs) j D := fun j ⟨⟨s, x1, x2⟩, x3⟩ => by
          by_cases hj : j ∈ vs
          · rw [un9 j hj] at x1
            cases x1
            cases x2
          · rw [(unAll_spec e12).2.2.1 j hj] at x1
            rw [wipe_other hj] at x3
            refine hh9.h j ⟨⟨s, x1, x2⟩, ?_⟩
            have : (wipe τ' vs)[j]? = (wipe σ vs)[j]? := by rw [w9]
            rw [wipe_other hj, wipe_other hj] at this
            rw [this]
            exact x3
        exact ⟨C9, δ9, acc9, accD9, zs9, R11, s9, ⟨hh9.at_, hh9.a, hh9.g, nh⟩, ra9, un9, e13, ey9, hi⟩
      cases k with
      | false =>
        refine iteF ?_
        rw [if_neg Bool.false_ne_true] at e10
        simp only [Option.bind_eq_some_iff] at e10
        obtain ⟨δ9, e12, e13⟩ := e10
        obtain ⟨R10, hh10⟩ := R4.found hh4 R7
        exact back R10 ww hh10 (s3.trans (s4.trans s7)) (ra.sub (s4.trans s7)) e12 e13 ey
      | true =>
        refine iteT ?_
        simp only [if_true, Option.bind_eq_some_iff, Option.map_eq_some_iff] at e10
        obtain ⟨⟨⟨ys1, ow1⟩, δ6⟩, e11, δ7, e12, ⟨r1, δr⟩, e13, δ9, e14, ⟨z2, δz⟩, e15, e16⟩ := e10
        dsimp only at e11 e12 e13 e14 e15 e16
        cases e16
        refine ⟨G.with D acc, C7, δ5, ys1, ow1, δ6, eK, R7, e11, fun J1 C8 H8 R8 s8 iw1 => ?_⟩
        have iwG : IW G C8 τ J1 ys1 ow1 := iw1 G rfl
        obtain ⟨R10, hh10⟩ := R4.found hh4 (R8.wipe e12)
        let P1 : Nat → Hp → Prop := fun j H => ∃ B δ acc' accD' zs1, Rl G B H δ (wipe τ vs1) ∧ Sub C8 B ∧ Held G B H δ (wipe τ vs1) D acc' ∧ RelAll G.K B acc' accD' ∧ (∀ i, i ∈ vs1 → δ[i]? = some .un) ∧ lcGo vs1 t1 tt1 te ys1 ow1 (ys1.drop j) δ = some (zs1, δr) ∧ accD ++ r1 = accD' ++ zs1 ∧ j ≤ ys1.length
        have stl1 : ∀ {j : Nat} {δ : Env} {zs : List IP.D}, lcGo vs1 t1 tt1 te ys1 ow1 (ys1.drop j) δ = some (zs, δr) → still δ ys1 ow1 = true := by
          intro i δ zs e
          cases hd : ys1.drop i with
          | nil =>
            rw [hd] at e
            unfold lcGo at e
            split at e
            · assumption
            · cases e
          | cons _ _ =>
            rw [hd] at e
            unfold lcGo at e
            split at e
            · assumption
            · cases e
        refine ⟨fun j k H => k = ys1.length - j ∧ P1 j H, ⟨_, rfl, C8, δ7, acc, accD, r1, R10, Sub.refl _, hh10, ra.sub ((s4.trans s7).trans s8), (unAll_spec e12).2.1, e13, rfl, Nat.zero_le _⟩, ?_⟩
        rintro j kk Hj ⟨rfl, B1, δj, accj, accDj, zsj, Rj, sj, hhj, raj, hunj, ej, eyj, hlj⟩
        have stj := stl1 ej
        by_cases hj : j < ys1.length
        · refine .inr ⟨iwG.goes j B1 Hj δj _ Rj sj (hk hunj stj) stj hj, P1 (j + 1), fun H' p' => ⟨_, by omega, rfl, p'⟩, fun x1 Hx yj => ?_⟩
          obtain ⟨C', d', R4', s4', sH', fr4', e7', r'⟩ := iwG.yields j B1 Hj δj _ x1 Hx Rj sj (hk hunj stj) stj hj yj
          have hh4' : Held G C' Hx δj (wipe τ vs1) D accj := ⟨sH' _ _ hhj.at_, (by
            cases q : C' D with
            | none => rfl
            | some o =>
              rcases fr4' D o q with ⟨u, hu⟩ | hu
              · rw [hhj.a] at hu
                cases hu
              · rw [hhj.at_] at hu
                cases hu), hhj.g, hhj.h⟩
          have R5' := R4'.hold hh4'.at_ hh4'.a hh4'.g hh4'.h
          rw [List.drop_eq_getElem_cons hj] at ej
          have ed' : ys1[j] = d' := by
            rw [List.getElem?_eq_getElem hj] at e7'
            exact Option.some.inj e7'
          rw [ed'] at ej
          unfold lcGo at ej
          rw [if_pos stj] at ej
          simp only [Option.bind_eq_some_iff] at ej
          obtain ⟨δ4', e8', ⟨k', δ5'⟩, e9', e10'⟩ := ej
          refine gs1 (G.with D accj) C' Hx δj δ4' (wipe τ vs1) x1 d' eK R5' r' e8' _ fun τ' R6' w6' => ?_
          have ww' : wipe τ' vs1 = wipe τ vs1 := (w6' vs1 hv1).trans (wipe_wipe τ vs1)
          refine ⟨ww', G.with D accj, C', δ4', k', δ5', eK, R6', e9', fun C7' H7' R7' s7' => ?_⟩
          have back1 : ∀ {C9 : Hp} {H9 : Hp} {δ8 δ9 : Env} {acc9 : List V}, Rl G C9 H9 δ8 τ' → Held G C9 H9 δ8 τ' D acc9 → unAll vs1 δ8 = some δ9 → Rl G C9 H9 δ9 (wipe τ vs1) ∧ Held G C9 H9 δ9 (wipe τ vs1) D acc9 ∧ ∀ i, i ∈ vs1 → δ9[i]? = some .un := by
            intro C9 H9 δ8 δ9 acc9 R9 hh9 e12
            have R11 : Rl G C9 H9 δ9 (wipe τ vs1) := by
              have := R9.wipe e12
              rw [ww'] at this
              exact this
            have un9 := (unAll_spec e12).2.1
            refine ⟨R11, ⟨hh9.at_, hh9.a, hh9.g, fun j ⟨⟨s, x1, x2⟩, x3⟩ => ?_⟩, un9⟩
            by_cases hj : j ∈ vs1
            · rw [un9 j hj] at x1
              cases x1
              cases x2
            · rw [(unAll_spec e12).2.2.1 j hj] at x1
              rw [wipe_other hj] at x3
              refine hh9.h j ⟨⟨s, x1, x2⟩, ?_⟩
              have : (wipe τ' vs1)[j]? = (wipe τ vs1)[j]? := by rw [ww']
              rw [wipe_other hj, wipe_other hj] at this
              rw [this]
              exact x3
          cases k' with
          | true =>
            refine iteT ?_
            simp only [if_true, Option.bind_eq_some_iff, Option.map_eq_some_iff] at e10'
            obtain ⟨⟨r8, δ8⟩, e11', δ9', e12', ⟨zs', δz⟩, e13', e14'⟩ := e10'
            cases e14'
            refine ⟨G.with D accj, C7', δ5', r8, δ8, eK, R7', e11', fun v C8' H8' R8' s8' k8 => ?_⟩
            obtain ⟨C9, R9, s9, k9⟩ := R8'.toD k8
            obtain ⟨R10', hh10'⟩ := R4'.found hh4' R9
            obtain ⟨R11, hh11, un9⟩ := back1 R10' hh10' e12'
            have hleq : accj.length = accDj.length := raj.length
            refine ⟨accj, hh11.at_, ?_, ?_⟩
            · have h1 : ys.length = (accD ++ r1).length + z2.length := by
                rw [ey]
                simp only [List.length_append]
                omega
              have h2 : (accD ++ r1).length = accDj.length + (zs'.length + 1) := by
                rw [eyj]
                simp only [List.length_append, List.length_cons]
              exact Nat.lt_of_lt_of_le (show accj.length < ys.length by omega) (line_le hlen)
            · refine ⟨C9, δ9', accj ++ [v], accDj ++ [r8.toD], zs', R11.relay hh11.at_ hh11.a hh11.g hh11.h, ?_, ⟨upd_same, hh11.a, hh11.g, hh11.h⟩, (raj.sub (((s4'.trans s7').trans s8').trans s9)).append (.cons k9 .nil), un9, e13', ?_, hj⟩
              · exact sj.trans (((s4'.trans s7').trans s8').trans s9)
              · rw [eyj, List.append_assoc]
                rfl
          | false =>
            refine iteF ?_
            rw [if_neg Bool.false_ne_true] at e10'
            simp only [Option.bind_eq_some_iff] at e10'
            obtain ⟨δ9', e12', e13'⟩ := e10'
            obtain ⟨R10', hh10'⟩ := R4'.found hh4' R7'
            obtain ⟨R11, hh11, un9⟩ := back1 R10' hh10' e12'
            exact ⟨C7', δ9', accj, accDj, zsj, R11, sj.trans (s4'.trans s7'), hh11, raj.sub (s4'.trans s7'), un9, e13', eyj, hj⟩
        · have ejj : j = ys1.length := by omega
          subst ejj
          refine .inl ⟨iwG.stops B1 Hj δj _ Rj sj (hk hunj stj) stj, ?_⟩
          rw [List.drop_length] at ej
          unfold lcGo at ej
          rw [if_pos stj] at ej
          cases ej
          rw [List.append_nil] at eyj
          refine back Rj ?_ hhj (s3.trans (((s4.trans s7).trans s8).trans sj)) raj e14 e15 ?_
          · rw [wipe_sub τ hsub, ww]
          · rw [ey, ← eyj, List.append_assoc]
    · have ei : i = xs.length := by omega
      subst ei
      refine .inl ⟨iw.stops B H δ _ R3 s3 (hk hun st) st, ?_⟩
      rw [List.drop_length] at e6
      unfold lc2Go at e6
      rw [if_pos st] at e6
      cases e6
      rw [List.append_nil] at ey
      subst ey
      have R4 := Rl.back R1 e2 s3 R3
      refine q _ B H R4 (s1.trans s3) ⟨D, acc, rfl, hh.at_, ra, hh.a, hh.g, fun i hi => ?_⟩
      exact hh.h i (back_holds R1 e2 R3 i D hi)
  · cases e5
variable {elt tg1 iter iter1 : Expr} {ifs ifs1 : List Expr} {scope : Scope} {own : List (Str × Nat)} {vs1 : List Nat} {it it1 : Ei} {gg g1 : TG} {t t1 : Tg} {tt tt1 : Et} {te : Ev}
theorem x_lc2 (hc : X.calm = true) (hN : X.N.Nodup) (hi : XI X tg iter it) (ok : BlkOk X.N X.env.scope scope own) (gs : GS X.K gg t) (hv : ∀ i ∈ t.slots, i ∈ own.map (·.2)) (gs1 : GS X.K g1 t1) (hv1 : ∀ i ∈ t1.slots, i ∈ vs1) (hsub : ∀ i ∈ vs1, i ∈ own.map (·.2))
    (hg : ∀ (s : Shared) (H : Hp) (C : Addr) (cl : List (Str × Addr)) (fp : List Addr), PG (X.blk s H scope (compEnvC scope cl C X.env) fp) tg gg) (ht : ∀ (s : Shared) (H : Hp) (C : Addr) (cl : List (Str × Addr)) (fp : List Addr), XTs (X.blk s H scope (compEnvC scope cl C X.env) fp) ifs tt)
    (hi1 : ∀ (s : Shared) (H : Hp) (C : Addr) (cl : List (Str × Addr)) (fp : List Addr), XJ (X.blk s H scope (compEnvC scope cl C X.env) fp) tg1 iter1 it1)
    (hg1 : ∀ (s : Shared) (H : Hp) (C : Addr) (cl : List (Str × Addr)) (fp : List Addr), PG (X.blk s H scope (compEnvC scope cl C X.env) fp) tg1 g1) (ht1 : ∀ (s : Shared) (H : Hp) (C : Addr) (cl : List (Str × Addr)) (fp : List Addr), XTs (X.blk s H scope (compEnvC scope cl C X.env) fp) ifs1 tt1)
    (he : ∀ (s : Shared) (H : Hp) (C : Addr) (cl : List (Str × Addr)) (fp : List Addr), XV (X.blk s H scope (compEnvC scope cl C X.env) fp) elt te) (hs : ∀ x, foldedSetIterable iter X.env x = pure x := by intro _; rfl) (hs1 : ∀ env x, foldedSetIterable iter1 env x = pure x := by intro _ _; rfl) :
    XV X (.ListComp elt [⟨tg, iter, ifs, 0⟩, ⟨tg1, iter1, ifs1, 0⟩] scope pos) (vLc2 (own.map (·.2)) vs1 it t tt it1 t1 tt1 te) := (pe_lc2 hc hN hi ok hsub hg ht hi1 hg1 ht1 he hs hs1).weak fun _ _ _ h => lc2_read gs gs1 hv hv1 hsub h
theorem xs_setLc2 {i : Nat} {y : Str} {py spos : Pos} (hc : X.calm = true) (hN : X.N.Nodup) (hy : X.N[i]? = some y) (hyl : X.env.scope.names.lookup y = some .local)
    (hsw : swapsWith (.ListComp elt [⟨tg, iter, ifs, 0⟩, ⟨tg1, iter1, ifs1, 0⟩] scope pos) (some (.Name y py)) spos.line X.env = pure true) (hi : XI X tg iter it) (ok : BlkOk X.N X.env.scope scope own) (gs : GS X.K gg t) (hv : ∀ i ∈ t.slots, i ∈ own.map (·.2)) (gs1 : GS X.K g1 t1) (hv1 : ∀ i ∈ t1.slots, i ∈ vs1) (hsub : ∀ i ∈ vs1, i ∈ own.map (·.2))
    (hg : ∀ (s : Shared) (H : Hp) (C : Addr) (cl : List (Str × Addr)) (fp : List Addr), PG (X.blk s H scope (compEnvC scope cl C X.env) fp) tg gg) (ht : ∀ (s : Shared) (H : Hp) (C : Addr) (cl : List (Str × Addr)) (fp : List Addr), XTs (X.blk s H scope (compEnvC scope cl C X.env) fp) ifs tt)
    (hi1 : ∀ (s : Shared) (H : Hp) (C : Addr) (cl : List (Str × Addr)) (fp : List Addr), XJ (X.blk s H scope (compEnvC scope cl C X.env) fp) tg1 iter1 it1)
    (hg1 : ∀ (s : Shared) (H : Hp) (C : Addr) (cl : List (Str × Addr)) (fp : List Addr), PG (X.blk s H scope (compEnvC scope cl C X.env) fp) tg1 g1) (ht1 : ∀ (s : Shared) (H : Hp) (C : Addr) (cl : List (Str × Addr)) (fp : List Addr), XTs (X.blk s H scope (compEnvC scope cl C X.env) fp) ifs1 tt1)
    (he : ∀ (s : Shared) (H : Hp) (C : Addr) (cl : List (Str × Addr)) (fp : List Addr), XV (X.blk s H scope (compEnvC scope cl C X.env) fp) elt te) (hs : ∀ x, foldedSetIterable iter X.env x = pure x := by intro _; rfl) (hs1 : ∀ env x, foldedSetIterable iter1 env x = pure x := by intro _ _; rfl) :
    XS X (.Assign [.Name y py] (.ListComp elt [⟨tg, iter, ifs, 0⟩, ⟨tg1, iter1, ifs1, 0⟩] scope pos) spos) (sSet i (vLc2 (own.map (·.2)) vs1 it t tt it1 t1 tt1 te)) :=
  (ps_setLc2 hc hN hy hyl hsw hi ok hsub hg ht hi1 hg1 ht1 he hs hs1).weak fun D σ H h => by
    have := set_read h
    exact lc2_read gs gs1 hv hv1 hsub (K := X.K) (by
      obtain ⟨G, H0, δ, r, δ', eK, R, e, q⟩ := this
      exact ⟨G, H0, δ, r, δ', eK, R, e, q⟩)
end
end IP
end
section
set_option Elab.async false
set_option linter.all false
set_option maxRecDepth 100000
/-! Snd17: a comprehension within a comprehension: its scope. -/
namespace IP
open PySem L2
theorem lookup_rel {env : PySem.Env} : ∀ {names : List (Str × NameKind)} {x : Str}, names.lookup x = some .cell ∨ names.lookup x = some .free →
    (names.map fun (n, k) => if (k == NameKind.free && env.scope.kind == .function && env.kindOf n == some .cell) then (n, NameKind.cell) else (n, k)).lookup x = some .cell ∨
    (names.map fun (n, k) => if (k == NameKind.free && env.scope.kind == .function && env.kindOf n == some .cell) then (n, NameKind.cell) else (n, k)).lookup x = some .free
  | [], _, h => by simp at h
  | (n, k) :: r, x, h => by
    have ih := @lookup_rel env r x
    rw [List.map_cons]
    show List.lookup x ((if (k == NameKind.free && env.scope.kind == .function && env.kindOf n == some .cell) = true then (n, NameKind.cell) else (n, k)) :: _) = _ ∨ List.lookup x ((if (k == NameKind.free && env.scope.kind == .function && env.kindOf n == some .cell) = true then (n, NameKind.cell) else (n, k)) :: _) = _
    by_cases hc : (k == NameKind.free && env.scope.kind == .function && env.kindOf n == some .cell) = true
    · rw [if_pos hc]
      cases hx : x == n with
      | true =>
        left
        rw [List.lookup_cons, hx]
      | false =>
        rw [List.lookup_cons, hx] at h
        rw [List.lookup_cons, hx]
        exact ih h
    · rw [if_neg hc]
      cases hx : x == n with
      | true =>
        rw [List.lookup_cons, hx] at h
        rw [List.lookup_cons, hx]
        exact h
      | false =>
        rw [List.lookup_cons, hx] at h
        rw [List.lookup_cons, hx]
        exact ih h
theorem blkOk_rel {N : List Str} {sc scope : Scope} {env : PySem.Env} {own : List (Str × Nat)} (h : blkC N sc scope own = true) : BlkOk N (relabel sc env) scope own := by
  have b := blkOk_by h
  exact ⟨b.kind, b.uniq, b.ix, fun y hy e => lookup_rel (b.free y hy e), b.own⟩
end IP
end
section
set_option Elab.async false
set_option linter.all false
set_option maxRecDepth 100000
/-! HeadI: the head of a program that imports. -/
noncomputable section
namespace HeadI
open PySem PySem.W PySem.Calls PyProof.Rows HandSHeadRun
/-- the opening, to the end of its imports -/
def impF (st : SharedT → Thread → Option (SharedT × Thread)) : Nat → SharedT → Thread → Option SharedT
  | 0, _, _ => none
  | n + 1, s, t => match t.atExitBegin with
    | some [] => some s
    | some (_ :: _) => none
    | none => match st s t with
      | some (s', t') => frS s' fun s' => impF st n s' t'
      | none => none
theorem impF_ok {tb : String → Option Builtin} {p : Program} {w : World} : ∀ {m : Nat} {s s' : SharedT} {t : Thread}, impF (stepT (denote tb) p w) m s t = some s' → importEnds tb p w m s.abs t = some s'.abs
  | 0, _, _, _, h => by cases h
  | m + 1, s, s', t, h => by
    have h1 : (match t.atExitBegin with
      | some [] => some s
      | some (_ :: _) => none
      | none => match stepT (denote tb) p w s t with
        | some (s', t') => frS s' fun s' => impF (stepT (denote tb) p w) m s' t'
        | none => none) = some s' := h
    unfold importEnds
    cases ht : t.atExitBegin with
    | some l =>
      rw [ht] at h1
      cases l with
      | nil => cases h1; rfl
      | cons x l => cases h1
    | none =>
      rw [ht] at h1
      cases hs : stepT (denote tb) p w s t with
      | none => rw [hs] at h1; cases h1
      | some r =>
        obtain ⟨s2, t2⟩ := r
        rw [hs] at h1
        have h3 : (frS s2 fun s' => impF (stepT (denote tb) p w) m s' t2) = some s' := h1
        rw [frS_eq] at h3
        have q := impF_ok h3
        show (match step (denote tb) p w s.abs t with
          | .go s' t' => importEnds tb p w m s' t'
          | .halt _ _ => none) = some s'.abs
        rw [stepT_spec hs]
        exact q
/-- the state that all begins with -/
def beginT (p : Program) : SharedT := ⟨.nil, 0, (start p).1.heap.life, (start p).1.gens, (start p).1.drawn, (start p).1.toks, (start p).1.os⟩
theorem beginT_ok (p : Program) : (beginT p).abs = (start p).1 := rfl
/-- a state as a tree -/
def treeOf (s : Shared) : Option SharedT := match putAll s.heap.objs.toList .nil 0 with
  | some (t, n) => some ⟨t, n, s.heap.life, s.gens, s.drawn, s.toks, s.os⟩
  | none => none
theorem treeOf_ok {s : Shared} {T : SharedT} (h : treeOf s = some T) : T.abs = s := by
  unfold treeOf at h
  cases e : putAll s.heap.objs.toList .nil 0 with
  | none => rw [e] at h; cases h
  | some r =>
    obtain ⟨t, n⟩ := r
    rw [e] at h
    cases h
    show (⟨absHeap t n s.heap.life, s.gens, s.drawn, s.toks, s.os⟩ : Shared) = s
    rw [putAll_heap e]
/-- all of it: the opening, the fences, the top -/
def endI {β : Type} (st : Program → SharedT → Thread → Option (SharedT × Thread)) (M1 M2 : Nat) (p : Program) (k : Heap → SharedT → β) : Option (Bool × β) :=
  match impF (st (opening p)) M1 (beginT (opening p)) (start (opening p)).2 with
  | some s1 => match fenceModules? p s1.abs with
    | some s2 => match treeOf s2 with
      | some T => frS T fun T => match goF (st p) T.n (s2.heap.nsMap mainGlobals "__annotations__") M2 T (topStub p) with
        | some s => some (s2.heap.isNs mainGlobals && s2.gens.size == 0, k s2.heap s)
        | none => none
      | none => none
    | none => none
  | none => none
theorem left_imp {p q : Program} {loose : List Str} {Xt : Shared → Bool} {α : Type} {Yf : Shared → α} {Ya : World → α} {N M1 M2 : Nat}
    (l1 : Nat.ble M1 N = true) (l2 : Nat.ble M2 N = true)
    (run : ∀ w : World, endI (fun p => stepT (denote treeTable) p w) M1 M2 p (fun h0 s => (looksF p h0 s.abs, openSeen q loose (importedModules p.main.body) Xt true s.abs, Yf s.abs)) = some (true, true, openGood q loose, Ya w)) :
    LeftO p q loose Xt Yf Ya N true := fun w => by
  have r := run w
  unfold endI at r
  cases e1 : impF (stepT (denote treeTable) (opening p) w) M1 (beginT (opening p)) (start (opening p)).2 with
  | none => rw [e1] at r; cases r
  | some s1 =>
    rw [e1] at r
    dsimp only at r
    cases e2 : fenceModules? p s1.abs with
    | none => rw [e2] at r; cases r
    | some s2 =>
      rw [e2] at r
      dsimp only at r
      cases e3 : treeOf s2 with
      | none => rw [e3] at r; cases r
      | some T =>
        rw [e3] at r
        dsimp only at r
        rw [frS_eq] at r
        cases e4 : goF (stepT (denote treeTable) p w) T.n (s2.heap.nsMap mainGlobals "__annotations__") M2 T (topStub p) with
        | none => rw [e4] at r; cases r
        | some s =>
          rw [e4] at r
          have r : (s2.heap.isNs mainGlobals && s2.gens.size == 0) = true ∧ looksF p s2.heap s.abs = true ∧ openSeen q loose (importedModules p.main.body) Xt true s.abs = openGood q loose ∧ Yf s.abs = Ya w := by simpa only [Option.some.injEq, Prod.mk.injEq] using r
          have hT := treeOf_ok e3
          have hn : s2.heap.objs.size = T.n := by
            rw [← hT]
            exact absHeap_size T.tree T.n T.life
          have i1 := impF_ok e1
          rw [beginT_ok] at i1
          have i2 := importEnds_mono (N - M1) _ _ _ _ i1
          rw [show M1 + (N - M1) = N by have := Nat.le_of_ble_eq_true l1; omega] at i2
          have g := topRun_mono (N - M2) _ _ _ _ (goF_ok e4)
          rw [show M2 + (N - M2) = N by have := Nat.le_of_ble_eq_true l2; omega, hT] at g
          have l : (staticsOk (importedModules p.main.body) s2.heap s.abs.heap && namesBound p s.abs.heap && gensDone s.abs && laidKept s2.heap s.abs.heap) = true := r.2.1
          have t : topFrom treeTable p w N s2 = some s.abs := by
            unfold topFrom
            rw [r.1]
            show (topRun treeTable p w s2.heap.objs.size _ N s2 (topStub p)).bind _ = _
            rw [hn, g]
            show (match staticsOk (importedModules p.main.body) s2.heap s.abs.heap && namesBound p s.abs.heap && gensDone s.abs && laidKept s2.heap s.abs.heap with | true => some s.abs | false => none) = _
            rw [l]
          unfold openEnds fencedOpening
          rw [i2]
          show ((fenceModules? p s1.abs).bind (topFrom treeTable p w N)).map _ = _
          rw [e2]
          show (topFrom treeTable p w N s2).map _ = _
          rw [t]
          exact congrArg some (Prod.ext r.2.2.1 r.2.2.2)
/-- the run's equation, by the library's twins -/
def RunI (r : OpenRow) (q : Program) (H : Hook) (ob : SharedT → H.α) (M1 M2 : Nat) (loose : List PySem.Str) (w : World) : Prop :=
  endI (fun p => stepQ (denQ tabQ) p w) M1 M2 r.prog (fun h0 s => (looksF r.prog h0 s.abs, seenQ q loose (importedModules r.prog.main.body) (fun s => xlAt q [] s && recOk r.toRowW.records s) s.abs, ob s)) = some (true, true, openGood q loose, H.val w)
theorem head_imp {r : OpenRow} {q : Program} {H : Hook} {ob : SharedT → H.α} {M1 M2 : Nat} {loose : List PySem.Str} {d : DefRec} {kwd : List (PySem.Str × PySem.Expr)} (ho : ∀ s : SharedT, ob s = H.obs s.abs)
    (run : ∀ w, RunI r q H ob M1 M2 loose w)
    (hdef : defOf q r.name = some (d, kwd)) (hp : r.prog.theDef r.name = some (d.params, d.body, d.scope)) (hk : kwWritten? d.params.kwonlyargs d.params.kw_defaults = some kwd)
    (hwr : (!r.writes || r.records.isEmpty) = true) (k1 : r.wellSaid = true) (ok : (chainsOk q && opensWell r.prog && (frees r.toRowW && r.within.isEmpty)) = true) (hb : r.prog.bare) (hw : r.toRowW.promised)
    (call : WalkO q loose (XL q []) H.says r.toRowW d kwd fun f vs => PySem.call f vs) : r.Holds := by
  have left : LeftO r.prog q loose (fun s => xlAt q [] s && recOk r.toRowW.records s) H.obs H.val (M1 + M2) true :=
    left_imp (M1 := M1) (M2 := M2) (Nat.ble_eq_true_of_le (by omega)) (Nat.ble_eq_true_of_le (by omega)) fun w => by
      have z := run w
      have eo : ob = fun s => H.obs s.abs := funext ho
      unfold RunI at z
      rw [eo] at z
      have es : (fun p => stepT (denote treeTable) p w) = fun p => stepQ (denQ tabQ) p w := by
        funext p
        rw [stepQ_eq, denQ_eq, tabQ_eq]
      rw [es]
      simp only [seenQ_eq]
      exact z
  exact holds_open (r := r) (q := q) (loose := loose) (XP := XL q []) (YP := H.says) (d := d) (kwd := kwd) left H.of H.keeps (fun s z => xl_of s (Bool.and_eq_true_iff.mp z).1) XL.keeps hdef hp hk (fun s z => recFacts_of (Bool.and_eq_true_iff.mp z).2) hwr k1 ok hb hw call
end HeadI
end
section
set_option linter.all false
/-! Lem: reckoning with IP. -/
namespace IPL
open IP
open PySem (PyData)
abbrev iT (xs : List Int) : D := .tuple (xs.map .int)
abbrev iL (xs : List Int) : D := .list (xs.map .int)
@[simp] theorem intsOf_map (xs : List Int) : intsOf (xs.map .int) = some xs := by
  induction xs with
  | nil => rfl
  | cons x xs ih => simp [intsOf, ih]
@[simp] theorem boolsOf_map (xs : List Bool) : boolsOf (xs.map .bool) = some xs := by
  induction xs with
  | nil => rfl
  | cons x xs ih => simp [boolsOf, ih]
@[simp] theorem intsOf_comp {α : Type} (f : α → Int) (xs : List α) : intsOf (xs.map (PyData.int ∘ f)) = some (xs.map f) := by
  rw [← List.map_map, intsOf_map]
@[simp] theorem intsOf_fun {α : Type} (f : α → Int) (xs : List α) : intsOf (xs.map fun x => PyData.int (f x)) = some (xs.map f) := intsOf_comp f xs
@[simp] theorem boolsOf_comp {α : Type} (f : α → Bool) (xs : List α) : boolsOf (xs.map (PyData.bool ∘ f)) = some (xs.map f) := by
  rw [← List.map_map, boolsOf_map]
@[simp] theorem boolsOf_fun {α : Type} (f : α → Bool) (xs : List α) : boolsOf (xs.map fun x => PyData.bool (f x)) = some (xs.map f) := boolsOf_comp f xs
@[simp] theorem same_ints (xs : List Int) : sameAll (xs.map .int) (xs.map .int) = true := by
  induction xs with
  | nil => simp [sameAll]
  | cons x xs ih => simp [sameAll, same, ih]
/-! ### comprehensions -/
@[simp] def lcTurn (vs : List Nat) (g : Tg) (t : Et) (e : Ev) (x : D) (δ : Env) : Option (Option D × Env) := (g.put x δ).bind fun δ1 => (t δ1).bind fun p => if p.1 = true then
    (e p.2).bind fun r => (unAll vs r.2).map fun δ2 => (some r.1.toD, δ2)
  else (unAll vs p.2).map fun δ2 => (none, δ2)
theorem lcGo_cons {vs : List Nat} {g : Tg} {t : Et} {e : Ev} {src : List D} {ow : Option Nat} {x : D} {xs : List D} {δ : Env} (h : still δ src ow = true) :
    lcGo vs g t e src ow (x :: xs) δ = (lcTurn vs g t e x δ).bind fun p => (lcGo vs g t e src ow xs p.2).map fun q => (p.1.toList ++ q.1, q.2) := by
  rw [lcGo, if_pos h]
  unfold lcTurn
  cases g.put x δ with
  | none => rfl
  | some δ1 =>
    simp only [Option.bind_some]
    cases t δ1 with
    | none => rfl
    | some p =>
      simp only [Option.bind_some]
      by_cases hp : p.1 = true
      · simp only [hp, if_true]
        cases e p.2 with
        | none => rfl
        | some r =>
          simp only [Option.bind_some]
          cases unAll vs r.2 with
          | none => rfl
          | some δ2 =>
            simp only [Option.bind_some, Option.map_some]
            rfl
      · simp only [hp, if_false]
        cases unAll vs p.2 with
        | none => rfl
        | some δ2 =>
          simp only [Option.bind_some, Option.map_some]
          show lcGo vs g t e src ow xs δ2 = (lcGo vs g t e src ow xs δ2).map fun q => (([] : List D) ++ q.1, q.2)
          cases lcGo vs g t e src ow xs δ2 with
          | none => rfl
          | some q => rfl
/-- every turn leaves the environment as it was -/
theorem lcGo_pure {α : Type} {vs : List Nat} {g : Tg} {t : Et} {e : Ev} {src : List D} {ow : Option Nat} {δ : Env} (enc : α → D) (f : α → Option D) (hst : still δ src ow = true) :
    ∀ (xs : List α), (∀ x ∈ xs, lcTurn vs g t e (enc x) δ = some (f x, δ)) → lcGo vs g t e src ow (xs.map enc) δ = some (xs.filterMap f, δ)
  | [], _ => by simp [lcGo, hst]
  | x :: xs, h => by
    rw [List.map_cons, lcGo_cons hst, h x List.mem_cons_self]
    simp only [Option.bind_some]
    rw [lcGo_pure enc f hst xs fun y hy => h y (List.mem_cons_of_mem _ hy), List.filterMap_cons]
    cases f x <;> rfl
theorem lcGo_map {α : Type} {vs : List Nat} {g : Tg} {t : Et} {e : Ev} {src : List D} {ow : Option Nat} {δ : Env} (enc : α → D) (f : α → D) (hst : still δ src ow = true) (xs : List α) (h : ∀ x ∈ xs, lcTurn vs g t e (enc x) δ = some (some (f x), δ)) :
    lcGo vs g t e src ow (xs.map enc) δ = some (xs.map f, δ) := by
  rw [lcGo_pure enc (fun x => some (f x)) hst xs h]
  rw [show xs.filterMap (fun x => some (f x)) = xs.map f from congrFun List.filterMap_eq_map xs]
/-! ### loops -/
theorem forGo_inv {α : Type} {g : Tg} {b : Es} (enc : α → D) (P : Nat → Env → Prop) : ∀ (xs : List α) (k : Nat) (δ : Env), P k δ →
    (∀ i x δ, xs[i]? = some x → P (k + i) δ → ∃ δ1 δ2 o, g.put (enc x) δ = some δ1 ∧ b δ1 = some (o, δ2) ∧ (o = .nx ∨ o = .ct) ∧ P (k + i + 1) δ2) → ∃ δ', forGo g b (xs.map enc) δ = some (.nx, δ') ∧ P (k + xs.length) δ'
  | [], k, δ, h0, _ => ⟨δ, rfl, h0⟩
  | x :: xs, k, δ, h0, h => by
    obtain ⟨δ1, δ2, o, e1, e2, e3, e4⟩ := h 0 x δ rfl h0
    obtain ⟨δ', a1, a2⟩ := forGo_inv enc P xs (k + 1) δ2 e4 fun i y δ hy hp => by
      have := h (i + 1) y δ (by simpa using hy) (by rw [show k + (i + 1) = k + 1 + i by omega]; exact hp)
      rw [show k + (i + 1) + 1 = k + 1 + i + 1 by omega] at this
      exact this
    refine ⟨δ', ?_, by rw [List.length_cons, show k + (xs.length + 1) = k + 1 + xs.length by omega]; exact a2⟩
    rw [List.map_cons, forGo, e1]
    simp only [Option.bind_some, e2]
    rcases e3 with rfl | rfl <;> exact a1
/-- a loop that looks for the first item with c -/
theorem forGo_find {α : Type} {g : Tg} {b : Es} (enc : α → D) (P : Env → Prop) (c : α → Bool) (r : α → Res) : ∀ (xs : List α) (δ : Env), P δ →
    (∀ x δ, x ∈ xs → P δ → ∃ δ1 δ2, g.put (enc x) δ = some δ1 ∧ P δ2 ∧ b δ1 = some (if c x = true then .rt (r x) else .nx, δ2)) →
    ∃ δ', P δ' ∧ forGo g b (xs.map enc) δ = some ((match xs.find? c with | none => .nx | some x => .rt (r x)), δ')
  | [], δ, h0, _ => ⟨δ, h0, rfl⟩
  | x :: xs, δ, h0, h => by
    obtain ⟨δ1, δ2, e1, e2, e3⟩ := h x δ List.mem_cons_self h0
    rw [List.map_cons, forGo, e1]
    simp only [Option.bind_some, e3]
    by_cases hc : c x = true
    · refine ⟨δ2, e2, ?_⟩
      simp [hc]
    · obtain ⟨δ', a1, a2⟩ := forGo_find enc P c r xs δ2 e2 fun y δ hy hp => h y δ (List.mem_cons_of_mem _ hy) hp
      refine ⟨δ', a1, ?_⟩
      simp [hc, a2]
theorem whileGo_inv {t : Et} {b : Es} (P Q : Env → Prop) (μ : Env → Nat) (h : ∀ δ, P δ → (∃ δ1, t δ = some (false, δ1) ∧ Q δ1) ∨ (∃ δ1 δ2 o, t δ = some (true, δ1) ∧ b δ1 = some (o, δ2) ∧ (o = .nx ∨ o = .ct) ∧ P δ2 ∧ μ δ2 < μ δ)) :
    ∀ (n : Nat) (δ : Env), P δ → μ δ < n → ∃ δ', whileGo t b n δ = some (.nx, δ') ∧ Q δ'
  | 0, δ, _, h => by omega
  | n + 1, δ, hp, hn => by
    rw [whileGo]
    rcases h δ hp with ⟨δ1, e1, e2⟩ | ⟨δ1, δ2, o, e1, e2, e3, e4, e5⟩
    · exact ⟨δ1, by simp [e1], e2⟩
    · obtain ⟨δ', a1, a2⟩ := whileGo_inv P Q μ h n δ2 e4 (by omega)
      refine ⟨δ', ?_, a2⟩
      simp only [e1, Option.bind_some, if_true, e2]
      rcases e3 with rfl | rfl <;> exact a1
/-! ### items -/
theorem ixN_nat {n j : Nat} (h : j < n) : IP.ixN n (j : Int) = some j := by
  unfold IP.ixN
  rw [if_pos (by omega), if_pos (by omega)]
  simp
@[simp] theorem atD_ints (xs : List Int) (i : Int) : atD (xs.map .int) i = ((IP.ixN xs.length i).bind fun j => xs[j]?).map .int := by
  unfold atD
  simp only [List.length_map, List.getElem?_map]
  cases IP.ixN xs.length i <;> simp
@[simp] theorem cutD_ints (xs : List Int) (lo hi : Option Int) : cutD (xs.map .int) lo hi = ((xs.drop (clampIx xs.length 0 lo)).take (clampIx xs.length xs.length hi - clampIx xs.length 0 lo)).map .int := by
  unfold cutD
  simp
theorem rangeD_eq (lo : Int) (n : Nat) : rangeD lo n = (List.range n).map fun (k : Nat) => .int (lo + (k : Int)) := rfl
theorem downD_eq (hi : Int) (n : Nat) : downD hi n = (List.range n).map fun (k : Nat) => .int (hi - (k : Int)) := rfl
theorem enumD_eq : ∀ (k : Nat) (xs : List D), enumD k xs = (List.range xs.length).map fun (i : Nat) => .tuple [.int ((k + i : Nat) : Int), xs.getD i .none]
  | _, [] => rfl
  | k, x :: xs => by
    rw [enumD, enumD_eq (k + 1) xs, List.length_cons, List.range_succ_eq_map, List.map_cons, List.map_map]
    simp only [Nat.add_zero, List.getD_cons_zero]
    congr 1
    apply List.map_congr_left
    intro i _
    simp [Nat.add_comm, Nat.add_left_comm]
end IPL
end
section
set_option linter.all false
/-! Ev: the rules by which a body is reckoned, one a construct. -/
namespace EV
open IP
open PySem (PyData)
variable {δ δ1 δ2 δ3 δ4 δ' : Env} {d x y z : D} {r r' : Res} {o o' : Out} {b b' : Bool} {i j k : Nat} {ds es xs ys : List D} {s : Slot} {p q : Opd} {os : List Opd}
abbrev iT (xs : List Int) : D := .tuple (xs.map .int)
abbrev iL (xs : List Int) : D := .list (xs.map .int)
/-! slots -/
theorem g_0 : (s :: δ)[0]? = some s := rfl
theorem g_s (h : δ[i]? = some s) {t : Slot} : (t :: δ)[i + 1]? = some s := h
theorem st_0u : setSlot (.un :: δ) 0 s = some (s :: δ) := rfl
theorem st_0d : setSlot (.dat d :: δ) 0 s = some (s :: δ) := rfl
theorem st_0o : setSlot (.own ds :: δ) 0 s = some (s :: δ) := rfl
theorem st_s {t : Slot} (h : setSlot δ i s = some δ') : setSlot (t :: δ) (i + 1) s = some (t :: δ') := by
  simp only [setSlot, List.getElem?_cons_succ, List.set_cons_succ] at h ⊢
  cases h' : δ[i]? with
  | none => simp [h'] at h
  | some sl => cases sl <;> simp_all
theorem ls_0 {t : Slot} : (t :: δ).set 0 s = s :: δ := rfl
theorem ls_s {t : Slot} (h : δ.set i s = δ') : (t :: δ).set (i + 1) s = t :: δ' := by rw [List.set_cons_succ, h]
theorem td_d : Res.toD (.dat d) = d := rfl
theorem td_n : Res.toD (.new ds) = .list ds := rfl
theorem so_d : slotOf (.dat d) = .dat d := rfl
theorem so_n : slotOf (.new ds) = .own ds := rfl
theorem rd_v : rd δ (.val d) = some d := rfl
theorem rd_o (h : δ[i]? = some (.own ds)) : rd δ (.at i) = some (.list ds) := by simp [rd, h]
theorem rd_p (h : δ[i]? = some (.prm ds)) : rd δ (.at i) = some (.list ds) := by simp [rd, h]
theorem ra_n : rdAll δ [] = some [] := rfl
theorem ra_c (h : rd δ p = some d) (h2 : rdAll δ os = some ds) : rdAll δ (p :: os) = some (d :: ds) := by
  rw [rdAll, h, h2]
  rfl
theorem vs_n : vals [] = some [] := rfl
theorem vs_c (h : vals os = some ds) : vals (.val d :: os) = some (d :: ds) := by simp [vals, h]
/-! values -/
theorem e_C : vC d δ = some (.dat d, δ) := rfl
theorem e_var (h : δ[i]? = some (.dat d)) : vVar i δ = some (.dat d, δ) := by simp [vVar, h]
theorem e_varO (h : δ[i]? = some (.own ds)) (h2 : δ.set i (.dat (.list ds)) = δ') : vVar i δ = some (.dat (.list ds), δ') := by simp [vVar, freeze, h, h2]
theorem o_var (h : δ[i]? = some (.dat d)) : oVar i δ = some (.val d, δ) := by simp [oVar, h]
theorem o_own (h : δ[i]? = some (.own ds)) : oVar i δ = some (.at i, δ) := by simp [oVar, h]
theorem o_prm (h : δ[i]? = some (.prm ds)) : oVar i δ = some (.at i, δ) := by simp [oVar, h]
theorem o_V {f : Ev} (h : f δ = some (r, δ1)) (h2 : r.toD = d) : oV f δ = some (.val d, δ1) := by
  rw [oV, h, ← h2]
  rfl
theorem e_bin {op : D → D → Option Res} {f g : Eo} (h1 : f δ = some (p, δ1)) (h2 : g δ1 = some (q, δ2)) (h3 : rd δ2 p = some x) (h4 : rd δ2 q = some y) (h5 : op x y = some r) : fBin op f g δ = some (r, δ2) := by
  simp only [fBin, h1, h2, h3, h4, h5, Option.bind_some, Option.map_some]
theorem e_un {op : D → Option Res} {f : Eo} (h1 : f δ = some (p, δ1)) (h3 : rd δ1 p = some x) (h5 : op x = some r) : fUn op f δ = some (r, δ1) := by
  simp only [fUn, h1, h3, h5, Option.bind_some, Option.map_some]
theorem e_not {f : Ev} (h : f δ = some (.dat (.bool b), δ1)) : vNot f δ = some (.dat (.bool (!b)), δ1) := by simp [vNot, h]
def andV (b : Bool) (g : Ev) (δ : Env) : Option (Res × Env) := if b = true then g δ else some (.dat (.bool false), δ)
def orV (b : Bool) (g : Ev) (δ : Env) : Option (Res × Env) := if b = true then some (.dat (.bool true), δ) else g δ
theorem andV_t {g : Ev} {R : Option (Res × Env)} (hb : b = true) (h : g δ = R) : andV b g δ = R := by rw [andV, if_pos hb, h]
theorem andV_f {g : Ev} (hb : b = false) : andV b g δ = some (.dat (.bool false), δ) := by rw [andV, hb]; rfl
theorem orV_t {g : Ev} (hb : b = true) : orV b g δ = some (.dat (.bool true), δ) := by rw [orV, if_pos hb]
theorem orV_f {g : Ev} {R : Option (Res × Env)} (hb : b = false) (h : g δ = R) : orV b g δ = R := by rw [orV, hb, ← h]; rfl
theorem e_and {f g : Ev} (h1 : f δ = some (.dat (.bool b), δ1)) (h2 : andV b g δ1 = some (r, δ2)) : vAnd f g δ = some (r, δ2) := by rw [vAnd_s, h1]; exact h2
theorem e_or {f g : Ev} (h1 : f δ = some (.dat (.bool b), δ1)) (h2 : orV b g δ1 = some (r, δ2)) : vOr f g δ = some (r, δ2) := by rw [vOr_s, h1]; exact h2
def iteV (b : Bool) (f g : Ev) (δ : Env) : Option (Res × Env) := if b = true then f δ else g δ
theorem iteV_t {f g : Ev} {R : Option (Res × Env)} (hb : b = true) (h : f δ = R) : iteV b f g δ = R := by rw [iteV, if_pos hb, h]
theorem iteV_f {f g : Ev} {R : Option (Res × Env)} (hb : b = false) (h : g δ = R) : iteV b f g δ = R := by rw [iteV, hb, ← h]; rfl
theorem e_ite {t : Et} {f g : Ev} (h1 : t δ = some (b, δ1)) (h2 : iteV b f g δ1 = some (r, δ2)) : vIte t f g δ = some (r, δ2) := by simp only [vIte, h1, Option.bind_some]; exact h2
def chK (b : Bool) (h : Eo) (o2 : D → D → Option Res) (q : Opd) (δ : Env) : Option (Res × Env) :=
  if b = true then (h δ).bind fun u => (rd u.2 q).bind fun y' => (rd u.2 u.1).bind fun z => (o2 y' z).map fun r => (r, u.2) else some (.dat (.bool false), δ)
theorem chK_t {h : Eo} {o2 : D → D → Option Res} (hb : b = true) (h1 : h δ = some (p, δ1)) (h2 : rd δ1 q = some y) (h3 : rd δ1 p = some z) (h4 : o2 y z = some r) : chK b h o2 q δ = some (r, δ1) := by
  simp only [chK, hb, if_true, h1, h2, h3, h4, Option.bind_some, Option.map_some]
theorem chK_f {h : Eo} {o2 : D → D → Option Res} (hb : b = false) : chK b h o2 q δ = some (.dat (.bool false), δ) := by rw [chK, hb]; rfl
theorem e_chain {o1 o2 : D → D → Option Res} {f g h : Eo} (h1 : f δ = some (p, δ1)) (h2 : g δ1 = some (q, δ2)) (h3 : rd δ2 p = some x) (h4 : rd δ2 q = some y) (h5 : o1 x y = some (.dat (.bool b))) (h6 : chK b h o2 q δ2 = some (r, δ3)) : vChain o1 o2 f g h δ = some (r, δ3) := by
  rw [vChain_s, h1]
  simp only [Option.bind_some, h2, h3, h4, h5, asB]
  exact h6
theorem e_tup {f : Ea} (h : f δ = some (os, δ1)) (h2 : vals os = some ds) (h3 : ds.length ≤ line) : vTup f δ = some (.dat (.tuple ds), δ1) := by simp only [vTup, h, h2, Option.bind_some, if_pos h3]
theorem e_lst {f : Ea} (h : f δ = some (os, δ1)) (h2 : vals os = some ds) (h3 : ds.length ≤ line) : vLst f δ = some (.new ds, δ1) := by simp only [vLst, h, h2, Option.bind_some, if_pos h3]
theorem e_bi {bb : List D → Option Res} {f : Ea} (h : f δ = some (os, δ1)) (h2 : rdAll δ1 os = some ds) (h3 : bb ds = some r) : vBi bb f δ = some (r, δ1) := by simp only [vBi, h, h2, h3, Option.bind_some, Option.map_some]
theorem a_n : aNil δ = some ([], δ) := rfl
theorem a_c {f : Eo} {g : Ea} (h : f δ = some (p, δ1)) (h2 : g δ1 = some (os, δ2)) : aCons f g δ = some (p :: os, δ2) := by simp [aCons, h, h2]
theorem e_call {c : Fnc} {f : Ea} (h1 : f δ = some (os, δ1)) (h2 : rdAll δ1 os = some ds) (h0 : anyAt os = false) (h3 : c none ds = some (r, none)) : vCall c f δ = some (r, δ1) := by
  simp only [vCall, h1, h2, h3, Option.bind_some, if_pos h0]
theorem e_callD {c : Fnc} {f : Ea} (h1 : f δ = some (os, δ1)) (h2 : rdAll δ1 os = some ds) (h3 : c none ds = some (.dat d, none)) (h0 : noList d = true) : vCall c f δ = some (.dat d, δ1) := by
  simp only [vCall, h1, h2, h3, Option.bind_some, h0]
  split <;> rfl
theorem e_callN {c : Fnc} {f : Ea} (h1 : f δ = some (os, δ1)) (h2 : rdAll δ1 os = some ds) (h3 : c none ds = some (.new es, none)) (h0 : noListAll es = true) : vCall c f δ = some (.new es, δ1) := by
  simp only [vCall, h1, h2, h3, Option.bind_some, h0]
  split <;> rfl
theorem ow_o (h : δ[i]? = some (.own ds)) : ownAt δ i = true := by simp [ownAt, h]
theorem ow_p (h : δ[i]? = some (.prm ds)) : ownAt δ i = true := by simp [ownAt, h]
theorem e_callRo {c : Fnc} {f : Ea} (h0 : ownAt δ i = true) (h1 : f δ = some (os, δ1)) (h2 : vals os = some ds) (h3 : δ1[i]? = some (.own xs)) (h4 : c (some xs) ds = some (r, some ys)) (h5 : δ1.set i (.own ys) = δ2) : vCallR c i f δ = some (r, δ2) := by
  simp only [vCallR, h0, if_true, h1, h2, h3, h4, h5, Option.bind_some]
theorem e_callRp {c : Fnc} {f : Ea} (h0 : ownAt δ i = true) (h1 : f δ = some (os, δ1)) (h2 : vals os = some ds) (h3 : δ1[i]? = some (.prm xs)) (h4 : c (some xs) ds = some (r, some ys)) (h5 : δ1.set i (.prm ys) = δ2) : vCallR c i f δ = some (r, δ2) := by
  simp only [vCallR, h0, if_true, h1, h2, h3, h4, h5, Option.bind_some]
/-! slices -/
theorem pn : pNo δ = some (none, δ) := rfl
theorem ps {f : Eo} {v : Int} (h : f δ = some (.val (.int v), δ1)) : pSo f δ = some (some v, δ1) := by simp [pSo, h]
def cutR (x : D) (lo hi : Option Int) : Option Res := match x with
  | .list xs => some (.new (cutD xs lo hi))
  | .tuple xs => some (.dat (.tuple (cutD xs lo hi)))
  | _ => none
theorem e_sl {f : Eo} {lo hi : Env → Option (Option Int × Env)} {l h : Option Int} (h1 : f δ = some (p, δ1)) (h2 : lo δ1 = some (l, δ2)) (h3 : hi δ2 = some (h, δ3)) (h4 : rd δ3 p = some x) (h5 : cutR x l h = some r) : fSl f lo hi δ = some (r, δ3) := by
  simp only [fSl, h1, h2, h3, h4, Option.bind_some]
  cases x <;> simp only [cutR, reduceCtorEq] at h5 <;> cases h5 <;> rfl
theorem clampN {n a : Nat} (h : a ≤ n) (d : Nat) : clampIx n d (some (a : Int)) = a := by
  simp only [clampIx]
  rw [if_neg (by omega), Int.toNat_natCast]
  omega
theorem clampBig {n a : Nat} (h : n ≤ a) (d : Nat) : clampIx n d (some (a : Int)) = n := by
  simp only [clampIx]
  rw [if_neg (by omega), Int.toNat_natCast]
  omega
theorem clampNeg {n a d : Nat} (h : a ≤ n) (h0 : 0 < a) : clampIx n d (some (-(a : Int))) = n - a := by
  simp only [clampIx]
  rw [if_pos (by omega)]
  omega
theorem cutTo (zs : List D) (a : Nat) : cutD zs none (some (a : Int)) = zs.take a := by
  unfold cutD
  rw [show clampIx zs.length 0 none = 0 from rfl, List.drop_zero, Nat.sub_zero]
  by_cases h : a ≤ zs.length
  · rw [clampN h]
  · rw [clampBig (by omega), List.take_of_length_le (Nat.le_refl _), List.take_of_length_le (by omega)]
theorem cutFrom (zs : List D) (a : Nat) : cutD zs (some (a : Int)) none = zs.drop a := by
  unfold cutD
  rw [show clampIx zs.length zs.length none = zs.length from rfl]
  by_cases h : a ≤ zs.length
  · rw [clampN h, List.take_of_length_le (by simp)]
  · rw [clampBig (by omega), List.drop_of_length_le (l := zs) (i := a) (by omega), List.drop_of_length_le (Nat.le_refl _)]
    simp
theorem cut_toT {zs : List Int} {a : Nat} : cutR (iT zs) none (some (a : Int)) = some (.dat (iT (zs.take a))) := by simp [cutR, cutTo]
theorem cut_toL {zs : List Int} {a : Nat} : cutR (iL zs) none (some (a : Int)) = some (.new ((zs.take a).map .int)) := by simp [cutR, cutTo]
theorem cut_frT {zs : List Int} {a : Nat} : cutR (iT zs) (some (a : Int)) none = some (.dat (iT (zs.drop a))) := by simp [cutR, cutFrom]
theorem cut_frL {zs : List Int} {a : Nat} : cutR (iL zs) (some (a : Int)) none = some (.new ((zs.drop a).map .int)) := by simp [cutR, cutFrom]
theorem cut_lastT {zs : List Int} : cutR (iT zs) none (some (-1)) = some (.dat (iT zs.dropLast)) := by
  simp only [cutR, cutD, Option.some.injEq, Res.dat.injEq, PyData.tuple.injEq]
  rw [show clampIx (zs.map PyData.int).length 0 none = 0 from rfl, List.drop_zero, Nat.sub_zero, ← List.map_take, List.dropLast_eq_take]
  congr 2
  simp [clampIx]
  omega
theorem cut_lastL {zs : List Int} : cutR (iL zs) none (some (-1)) = some (.new (zs.dropLast.map .int)) := by
  have := cut_lastT (zs := zs)
  simp only [cutR, Option.some.injEq, Res.dat.injEq, PyData.tuple.injEq] at this
  simp only [cutR, this]
/-! operators -/
variable {a c v w : Int} {us vs : List Int}
theorem p_add : bAdd (.int a) (.int c) = some (.dat (.int (a + c))) := rfl
theorem p_addT (h : us.length + vs.length ≤ line) : bAdd (iT us) (iT vs) = some (.dat (iT (us ++ vs))) := by simp only [bAdd, List.length_map, if_pos h, ← List.map_append]
theorem p_addL (h : us.length + vs.length ≤ line) : bAdd (iL us) (iL vs) = some (.new ((us ++ vs).map .int)) := by simp only [bAdd, List.length_map, if_pos h, ← List.map_append]
theorem p_addTs (h : us.length + 1 ≤ line) : bAdd (iT us) (.tuple [.int v]) = some (.dat (iT (us ++ [v]))) := p_addT (vs := [v]) h
theorem p_addsT (h : 1 + us.length ≤ line) : bAdd (.tuple [.int v]) (iT us) = some (.dat (iT (v :: us))) := by
  have := p_addT (us := [v]) (vs := us) (by simpa using h)
  simpa using this
theorem p_sub : bSub (.int a) (.int c) = some (.dat (.int (a - c))) := rfl
theorem p_mulL (h : -18446744073709551616 < a ∧ a < 18446744073709551616) : bMul (.int a) (.int c) = some (.dat (.int (a * c))) := by
  rw [bMul, if_pos (.inl (.inl h))]
theorem p_mulR (h : -18446744073709551616 < c ∧ c < 18446744073709551616) : bMul (.int a) (.int c) = some (.dat (.int (a * c))) := by
  rw [bMul, if_pos (.inl (.inr h))]
theorem p_mulB (h : a.natAbs.log2 + c.natAbs.log2 < 1000000) : bMul (.int a) (.int c) = some (.dat (.int (a * c))) := by
  rw [bMul, if_pos (.inr h)]
theorem p_fdiv (h : 0 < c) (h2 : c < 1073741824) : bFdiv (.int a) (.int c) = some (.dat (.int (a / c))) := by rw [bFdiv, if_pos ⟨h, .inl h2⟩]
theorem p_fdivB (h : 0 < c) (h2 : c.natAbs.log2 < 9000) : bFdiv (.int a) (.int c) = some (.dat (.int (a / c))) := by rw [bFdiv, if_pos ⟨h, .inr h2⟩]
theorem p_mod (h : 0 < c) : bMod (.int a) (.int c) = some (.dat (.int (a % c))) := by rw [bMod, if_pos h]
theorem p_lt : bLt (.int a) (.int c) = some (.dat (.bool (decide (a < c)))) := rfl
theorem p_le : bLe (.int a) (.int c) = some (.dat (.bool (decide (a ≤ c)))) := rfl
theorem p_gt : bGt (.int a) (.int c) = some (.dat (.bool (decide (c < a)))) := rfl
theorem p_ge : bGe (.int a) (.int c) = some (.dat (.bool (decide (c ≤ a)))) := rfl
theorem p_neg : uNeg (.int a) = some (.dat (.int (-a))) := rfl
theorem shI (v : Int) : PySem.SeqAt.shaped (.int v) = true := by simp [PySem.SeqAt.shaped, PySem.PyData.canLay0, PySem.PyData.depth]
theorem shN : PySem.SeqAt.shaped .none = true := by simp [PySem.SeqAt.shaped, PySem.PyData.canLay0, PySem.PyData.depth]
theorem shB (v : Bool) : PySem.SeqAt.shaped (.bool v) = true := by simp [PySem.SeqAt.shaped, PySem.PyData.canLay0, PySem.PyData.depth]
theorem beqI : (a == c) = decide (a = c) := by by_cases h : a = c <;> simp [h]
theorem p_eq : bEq (.int a) (.int c) = some (.dat (.bool (decide (a = c)))) := by rw [bEq, if_pos ⟨shI a, shI c⟩, PyData.eqv, beqI]
theorem p_ne : bNe (.int a) (.int c) = some (.dat (.bool (!decide (a = c)))) := by rw [bNe, if_pos ⟨shI a, shI c⟩, PyData.eqv, beqI]
theorem p_eqB : bEq (.bool b) (.bool b') = some (.dat (.bool (decide (b = b')))) := by
  rw [bEq, if_pos ⟨shB b, shB b'⟩, PyData.eqv]
  cases b <;> cases b' <;> rfl
theorem p_neB : bNe (.bool b) (.bool b') = some (.dat (.bool (!decide (b = b')))) := by
  rw [bNe, if_pos ⟨shB b, shB b'⟩, PyData.eqv]
  cases b <;> cases b' <;> rfl
theorem p_xor (h : 0 ≤ a) (h2 : 0 ≤ c) : bXor (.int a) (.int c) = some (.dat (.int ((a.toNat ^^^ c.toNat : Nat) : Int))) := by rw [bXor, if_pos ⟨h, h2⟩]
theorem p_and (h : 0 ≤ a) (h2 : 0 ≤ c) : bAnd (.int a) (.int c) = some (.dat (.int ((a.toNat &&& c.toNat : Nat) : Int))) := by rw [bAnd, if_pos ⟨h, h2⟩]
theorem p_bits {m : Nat} (h : m ≠ 0) : uBits (.int (m : Int)) = some (.dat (.int ((m.log2 + 1 : Nat) : Int))) := by
  simp only [uBits]
  rw [if_neg (by omega)]
  rfl
theorem ixNn {n m : Nat} (h : m < n) : IP.ixN n (m : Int) = some m := by
  unfold IP.ixN
  rw [if_pos (by omega), if_pos (by omega)]
  simp
theorem p_ixT {m : Nat} (h : m < us.length) : bIx (iT us) (.int (m : Int)) = some (.dat (.int (us.getD m 0))) := by
  simp only [bIx, atD, List.length_map, ixNn h, Option.bind_some]
  rw [List.getElem?_map, List.getElem?_eq_getElem h]
  simp [List.getD, h]
theorem p_ixL {m : Nat} (h : m < us.length) : bIx (iL us) (.int (m : Int)) = some (.dat (.int (us.getD m 0))) := by
  simp only [bIx, atD, List.length_map, ixNn h, Option.bind_some]
  rw [List.getElem?_map, List.getElem?_eq_getElem h]
  simp [List.getD, h]
theorem p_ixT' (h0 : 0 ≤ a) (h : a < us.length) : bIx (iT us) (.int a) = some (.dat (.int (us.getD a.toNat 0))) := by
  obtain ⟨m, rfl⟩ : ∃ m : Nat, (m : Int) = a := ⟨a.toNat, by omega⟩
  rw [p_ixT (by omega), Int.toNat_natCast]
theorem p_ixL' (h0 : 0 ≤ a) (h : a < us.length) : bIx (iL us) (.int a) = some (.dat (.int (us.getD a.toNat 0))) := by
  obtain ⟨m, rfl⟩ : ∃ m : Nat, (m : Int) = a := ⟨a.toNat, by omega⟩
  rw [p_ixL (by omega), Int.toNat_natCast]
theorem p_revT : uRev (iT us) = some (.dat (iT us.reverse)) := by simp only [uRev, ← List.map_reverse]
theorem p_revL : uRev (iL us) = some (.new (us.reverse.map .int)) := by simp only [uRev, ← List.map_reverse]
/-! builtins -/
theorem b_lenT : biLen [iT us] = some (.dat (.int us.length)) := by simp only [biLen, List.length_map]
theorem b_lenL : biLen [iL us] = some (.dat (.int us.length)) := by simp only [biLen, List.length_map]
theorem b_lenL' : biLen [.list ds] = some (.dat (.int ds.length)) := rfl
theorem b_lenT' : biLen [.tuple ds] = some (.dat (.int ds.length)) := rfl
theorem b_int : biInt [.int a] = some (.dat (.int a)) := rfl
theorem b_intB : biInt [.bool b] = some (.dat (.int (if b then 1 else 0))) := rfl
theorem b_tupL : biTuple [.list ds] = some (.dat (.tuple ds)) := rfl
theorem b_tupT : biTuple [.tuple ds] = some (.dat (.tuple ds)) := rfl
theorem b_lstL : biList [.list ds] = some (.new ds) := rfl
theorem b_lstT : biList [.tuple ds] = some (.new ds) := rfl
theorem b_sum : biSum [iL us] = some (.dat (.int us.sum)) := by simp only [biSum, IPL.intsOf_map, Option.map_some]
theorem b_abs : biAbs [.int a] = some (.dat (.int (if a < 0 then -a else a))) := rfl
theorem b_max : biMax [.int a, .int c] = some (.dat (.int (if c > a then c else a))) := rfl
theorem b_min : biMin [.int a, .int c] = some (.dat (.int (if c < a then c else a))) := rfl
theorem b_gcd : biGcd [.int a, .int c] = some (.dat (.int ((Nat.gcd a.natAbs c.natAbs : Nat) : Int))) := rfl
theorem l_n (n : Nat) : ([] : List D).length ≤ line := by decide
/-! what is walked -/
theorem i_E {f : Eo} (h : f δ = some (.val (.list ds), δ1)) : iE f δ = some ((ds, none), δ1) := by simp [iE, h, own?]
theorem i_ET {f : Eo} (h : f δ = some (.val (.tuple ds), δ1)) : iE f δ = some ((ds, none), δ1) := by simp [iE, h, own?]
theorem i_EO {f : Eo} (h : f δ = some (.at i, δ1)) (h2 : rd δ1 (.at i) = some (.list ds)) : iE f δ = some ((ds, some i), δ1) := by
  simp only [iE, h, Option.bind_some, h2]
  rfl
theorem i_rL {f : Eo} {zs : List Int} (h : f δ = some (.val (iL zs), δ1)) : iRevS f δ = some ((zs.reverse.map .int, none), δ1) := by simp [iRevS, h]
theorem i_rT {f : Eo} {zs : List Int} (h : f δ = some (.val (iT zs), δ1)) : iRevS f δ = some ((zs.reverse.map .int, none), δ1) := by simp [iRevS, h]
abbrev encN (k : Nat) : D := .int (k : Int)
abbrev encFrom (a : Int) (k : Nat) : D := .int (a + (k : Int))
theorem i_r1 {f : Eo} {n : Nat} (h : f δ = some (.val (.int (n : Int)), δ1)) (h2 : n ≤ 1000000000) : iRange1 f δ = some (((List.range n).map encN, none), δ1) := by
  rw [iRange1_at h (by omega)]
  simp [rangeD]
theorem i_r1' {f : Eo} (h : f δ = some (.val (.int a), δ1)) (h2 : a ≤ 1000000000) (h3 : -1000000000 ≤ a) : iRange1 f δ = some (((List.range a.toNat).map encN, none), δ1) := by
  rw [iRange1_at h (by omega)]
  simp [rangeD]
theorem i_r2 {f g : Eo} (h : f δ = some (.val (.int a), δ1)) (h1 : g δ1 = some (.val (.int c), δ2)) (h2 : a ≤ 1000000000) (h3 : -1000000000 ≤ a) (h4 : c ≤ 1000000000) (h5 : -1000000000 ≤ c) : iRange2 f g δ = some (((List.range (c - a).toNat).map (encFrom a), none), δ2) := by
  rw [iRange2_at h h1 (by omega) (by omega)]
  rfl
abbrev enc2 (p : Int × Int) : D := .tuple [.int p.1, .int p.2]
theorem zipD_ints : ∀ us vs : List Int, zipD (us.map .int) (vs.map .int) = (us.zip vs).map enc2
  | [], vs => by simp [zipD]
  | u :: us, [] => by simp [zipD]
  | u :: us, v :: vs => by simp [zipD, zipD_ints us vs]
theorem i_zT {f g : Eo} (h : f δ = some (.val (iT us), δ1)) (h1 : g δ1 = some (.val (iT vs), δ2)) : iZip f g δ = some (((us.zip vs).map enc2, none), δ2) := by simp [iZip, h, h1, zipD_ints]
theorem i_zL {f g : Eo} (h : f δ = some (.val (iL us), δ1)) (h1 : g δ1 = some (.val (iL vs), δ2)) : iZip f g δ = some (((us.zip vs).map enc2, none), δ2) := by simp [iZip, h, h1, zipD_ints]
/-! targets -/
theorem t_nm (h : setSlot δ i (.dat d) = some δ1) : (Tg.nm i).put d δ = some δ1 := h
theorem t_tup {is : List Nat} (h : setDs δ is ds = some δ1) : (Tg.tup is).put (.tuple ds) δ = some δ1 := h
theorem sd_n : setDs δ [] [] = some δ := rfl
theorem sd_c {is : List Nat} (h : setSlot δ i (.dat d) = some δ1) (h2 : setDs δ1 is ds = some δ2) : setDs δ (i :: is) (d :: ds) = some δ2 := by simp only [setDs, h, Option.bind_some, h2]
/-! comprehensions -/
theorem u_n : unAll [] δ = some δ := rfl
theorem u_u {is : List Nat} (h : δ[i]? = some .un) (h2 : unAll is δ = some δ1) : unAll (i :: is) δ = some δ1 := by simp only [unAll, h, h2]
theorem u_d {is : List Nat} (h : δ[i]? = some (.dat d)) (h2 : δ.set i .un = δ1) (h3 : unAll is δ1 = some δ2) : unAll (i :: is) δ = some δ2 := by simp only [unAll, h, h2, h3]
theorem ba_n {δ0 : Env} : backAll δ0 [] δ = δ := rfl
theorem ba_c {δ0 : Env} {is : List Nat} (h : δ0[i]? = some s) (h2 : δ.set i s = δ1) (h3 : backAll δ0 is δ1 = δ2) : backAll δ0 (i :: is) δ = δ2 := by simp only [backAll, h, h2, h3]
theorem e_lc {vs : List Nat} {it : Ei} {g : Tg} {t : Et} {e : Ev} {ow : Option Nat} (h1 : it δ = some ((xs, ow), δ1)) (h2 : unAll vs δ1 = some δ2) (h4 : lcGo vs g t e xs ow xs δ2 = some (ys, δ3)) (h3 : xs.length ≤ line) (h5 : backAll δ1 vs δ3 = δ4) : vLc vs it g t e δ = some (.new ys, δ4) := by
  simp only [vLc, h1, h2, Option.bind_some]
  rw [if_pos h3, h4, ← h5]
  rfl
section
variable {α : Type} {vs : List Nat} {g : Tg} {t : Et} {e : Ev} {src : List D} {ow : Option Nat} {enc : α → D} {l : List α}
theorem lt_y (h1 : g.put x δ = some δ1) (h2 : e δ1 = some (r, δ2)) (h4 : r.toD = d) (h3 : unAll vs δ2 = some δ) : IPL.lcTurn vs g tYes e x δ = some (some d, δ) := by
  simp only [IPL.lcTurn, h1, Option.bind_some, tYes, if_true, h2, h3, Option.map_some, h4]
theorem l_int {f : α → Int} (h : ∀ u ∈ l, IPL.lcTurn vs g tYes e (enc u) δ = some (some (.int (f u)), δ)) (hst : still δ src ow = true) : lcGo vs g tYes e src ow (l.map enc) δ = some ((l.map f).map .int, δ) := by
  rw [IPL.lcGo_map enc (fun u => .int (f u)) hst l h, List.map_map]
  rfl
theorem l_any {f : α → D} (h : ∀ u ∈ l, IPL.lcTurn vs g tYes e (enc u) δ = some (some (f u), δ)) (hst : still δ src ow = true) : lcGo vs g tYes e src ow (l.map enc) δ = some (l.map f, δ) :=
  IPL.lcGo_map enc f hst l h
theorem lt_t (h1 : g.put x δ = some δ1) (h5 : t δ1 = some (b, δ2)) (h6 : b = true) (h2 : e δ2 = some (r, δ3)) (h4 : r.toD = d) (h3 : unAll vs δ3 = some δ) : IPL.lcTurn vs g t e x δ = some (some d, δ) := by
  simp only [IPL.lcTurn, h1, Option.bind_some, h5, h6, if_true, h2, h3, Option.map_some, h4]
theorem lt_f (h1 : g.put x δ = some δ1) (h5 : t δ1 = some (b, δ2)) (h6 : b = false) (h3 : unAll vs δ2 = some δ) : IPL.lcTurn vs g t e x δ = some (none, δ) := by
  simp only [IPL.lcTurn, h1, Option.bind_some, h5, h6, h3, Option.map_some]
  rfl
/-- with a test, the items that pass as they are told -/
theorem l_flt {c : α → Bool} {f : α → D} (ht : ∀ u ∈ l, c u = true → IPL.lcTurn vs g t e (enc u) δ = some (some (f u), δ)) (hf : ∀ u ∈ l, c u = false → IPL.lcTurn vs g t e (enc u) δ = some (none, δ)) (hst : still δ src ow = true) :
    lcGo vs g t e src ow (l.map enc) δ = some ((l.filter c).map f, δ) := by
  rw [IPL.lcGo_pure enc (fun u => if c u = true then some (f u) else none) hst l fun u hu => by
    cases hc : c u with
    | true => exact ht u hu hc
    | false => exact hf u hu hc]
  congr 2
  clear ht hf
  induction l with
  | nil => rfl
  | cons u l ih =>
    rw [List.filterMap_cons, List.filter_cons, ih]
    cases c u <;> rfl
end
theorem stl_n : still δ xs none = true := rfl
/-! tests -/
theorem tr_i : truth (.int a) = some (a != 0) := rfl
theorem tr_b : truth (.bool b) = some b := rfl
theorem tr_n : truth .none = some false := rfl
theorem t_V {f : Eo} (h : f δ = some (p, δ1)) (h2 : rd δ1 p = some d) (h3 : truth d = some b) : tV f δ = some (b, δ1) := by simp only [tV, h, h2, h3, Option.bind_some, Option.map_some]
theorem t_B {f : Ev} (h : f δ = some (.dat (.bool b), δ1)) : tB f δ = some (b, δ1) := by simp only [tB, h, Option.bind_some]
theorem t_not {f : Et} (h : f δ = some (b, δ1)) : tNot f δ = some (!b, δ1) := by simp only [tNot, h, Option.map_some]
def andT (b : Bool) (g : Et) (δ : Env) : Option (Bool × Env) := if b = true then g δ else some (false, δ)
def orT (b : Bool) (g : Et) (δ : Env) : Option (Bool × Env) := if b = true then some (true, δ) else g δ
theorem andT_t {g : Et} {R : Option (Bool × Env)} (hb : b = true) (h : g δ = R) : andT b g δ = R := by rw [andT, if_pos hb, h]
theorem andT_f {g : Et} (hb : b = false) : andT b g δ = some (false, δ) := by rw [andT, hb]; rfl
theorem orT_t {g : Et} (hb : b = true) : orT b g δ = some (true, δ) := by rw [orT, if_pos hb]
theorem orT_f {g : Et} {R : Option (Bool × Env)} (hb : b = false) (h : g δ = R) : orT b g δ = R := by rw [orT, hb, ← h]; rfl
theorem t_and {f g : Et} (h1 : f δ = some (b, δ1)) (h2 : andT b g δ1 = some (b', δ2)) : tAnd f g δ = some (b', δ2) := by simp only [tAnd, h1, Option.bind_some]; exact h2
theorem t_or {f g : Et} (h1 : f δ = some (b, δ1)) (h2 : orT b g δ1 = some (b', δ2)) : tOr f g δ = some (b', δ2) := by simp only [tOr, h1, Option.bind_some]; exact h2
/-! statements -/
def seqK (o : Out) (g : Es) (δ : Env) : Option (Out × Env) := match o with
  | .nx => g δ
  | o => some (o, δ)
theorem q_nx {g : Es} {R : Option (Out × Env)} (h : g δ = R) : seqK .nx g δ = R := h
theorem q_rt {g : Es} : seqK (.rt r) g δ = some (.rt r, δ) := rfl
theorem q_bk {g : Es} : seqK .bk g δ = some (.bk, δ) := rfl
theorem q_ct {g : Es} : seqK .ct g δ = some (.ct, δ) := rfl
theorem s_seq {f g : Es} (h1 : f δ = some (o, δ1)) (h2 : seqK o g δ1 = some (o', δ2)) : sSeq f g δ = some (o', δ2) := by
  simp only [sSeq, h1, Option.bind_some]
  cases o <;> exact h2
theorem s_pass : sPass δ = some (.nx, δ) := rfl
theorem s_brk : sBreak δ = some (.bk, δ) := rfl
theorem s_cnt : sCont δ = some (.ct, δ) := rfl
theorem s_retN : sRetN δ = some (.rt (.dat .none), δ) := rfl
theorem s_set {f : Ev} (h : f δ = some (r, δ1)) (h1 : slotOf r = s) (h2 : setSlot δ1 i s = some δ2) : sSet i f δ = some (.nx, δ2) := by
  subst h1
  simp only [sSet, h, Option.bind_some, h2, Option.map_some]
theorem s_unp {is : List Nat} {f : Ev} (h : f δ = some (.dat (.tuple ds), δ1)) (h2 : setDs δ1 is ds = some δ2) : sUnp is f δ = some (.nx, δ2) := by
  simp only [sUnp, h, Option.bind_some, h2, Option.map_some]
theorem pe_n : pEvs [] δ = some ([], δ) := rfl
theorem pe_c {f : Ev} {fs : List Ev} {rs : List Res} (h : f δ = some (r, δ1)) (h2 : pEvs fs δ1 = some (rs, δ2)) : pEvs (f :: fs) δ = some (r :: rs, δ2) := by simp only [pEvs, h, h2, Option.bind_some, Option.map_some]
theorem sr_n : setRs δ [] [] = some δ := rfl
theorem sr_c {is : List Nat} {rs : List Res} (h1 : slotOf r = s) (h2 : setSlot δ i s = some δ1) (h3 : setRs δ1 is rs = some δ2) : setRs δ (i :: is) (r :: rs) = some δ2 := by
  subst h1
  simp only [setRs, h2, Option.bind_some, h3]
theorem s_par {is : List Nat} {fs : List Ev} {rs : List Res} (h : pEvs fs δ = some (rs, δ1)) (h2 : setRs δ1 is rs = some δ2) : sPar is fs δ = some (.nx, δ2) := by simp only [sPar, h, Option.bind_some, h2, Option.map_some]
theorem s_ex {f : Ev} (h : f δ = some (r, δ1)) : sEx f δ = some (.nx, δ1) := by simp only [sEx, h, Option.map_some]
theorem s_ret {f : Ev} (h : f δ = some (r, δ1)) : sRet f δ = some (.rt r, δ1) := by simp only [sRet, h, Option.map_some]
def ifK (b : Bool) (f g : Es) (δ : Env) : Option (Out × Env) := if b = true then f δ else g δ
theorem if_t {f g : Es} {R : Option (Out × Env)} (hb : b = true) (h : f δ = R) : ifK b f g δ = R := by rw [ifK, if_pos hb, h]
theorem if_f {f g : Es} {R : Option (Out × Env)} (hb : b = false) (h : g δ = R) : ifK b f g δ = R := by rw [ifK, hb, ← h]; rfl
theorem s_if {t : Et} {f g : Es} (h1 : t δ = some (b, δ1)) (h2 : ifK b f g δ1 = some (o, δ2)) : sIf t f g δ = some (o, δ2) := by simp only [sIf, h1, Option.bind_some]; exact h2
theorem s_appO {f : Ev} (h0 : ownAt δ i = true) (h : f δ = some (r, δ1)) (h2 : r.toD = d) (h3 : δ1[i]? = some (.own xs)) (h4 : xs.length < line) (h5 : δ1.set i (.own (xs ++ [d])) = δ2) : sApp i f δ = some (.nx, δ2) := by
  simp only [sApp, h0, if_true, h, Option.bind_some, withOwn, h3, if_pos h4, Option.map_some, h2, h5]
theorem s_appI {f : Ev} (h0 : ownAt δ i = true) (h : f δ = some (.dat (.int v), δ1)) (h3 : δ1[i]? = some (.own (us.map .int))) (h4 : us.length < line) (h5 : δ1.set i (.own ((us ++ [v]).map .int)) = δ2) : sApp i f δ = some (.nx, δ2) :=
  s_appO h0 h rfl h3 (by simpa using h4) (by rw [← h5, List.map_append]; rfl)
theorem s_augI {op : Int → Int → Int} {f : Eo} (h0 : δ[i]? = some (.dat (.int a))) (h : f δ = some (.val (.int c), δ1)) (h2 : setSlot δ1 i (.dat (.int (op a c))) = some δ2) : sAug i op f δ = some (.nx, δ2) := by
  simp only [sAug, h0, h, Option.bind_some, h2, Option.map_some]
theorem s_for {it : Ei} {g : Tg} {bb : Es} (h : it δ = some ((xs, none), δ1)) (h2 : forGo g bb xs δ1 = some (o, δ2)) : sFor it g bb δ = some (o, δ2) := by
  simp only [sFor, h, Option.bind_some, if_true]
  exact h2
theorem s_while {t : Et} {bb : Es} (h : whileGo t bb turns δ = some (o, δ1)) : sWhile t bb δ = some (o, δ1) := h
theorem s_setIx {ix f : Eo} {m : Nat} (h : f δ = some (.val d, δ1)) (h0 : ownAt δ1 i = true) (h1 : ix δ1 = some (.val (.int (m : Int)), δ2)) (h2 : δ2[i]? = some (.own xs)) (h3 : m < xs.length) (h4 : δ2.set i (.own (xs.set m d)) = δ3) : sSetIx i ix f δ = some (.nx, δ3) := by
  simp only [sSetIx, h, Option.bind_some, h0, if_true, h1, withOwn, h2, ixNn h3, Option.map_some, h4]
def outR : Out → Option Res
  | .nx => some (.dat .none)
  | .rt r => some r
  | _ => none
theorem or_n : outR .nx = some (.dat .none) := rfl
theorem or_r : outR (.rt r) = some r := rfl
theorem fn_v {F : Fn} {δ0 : Env} (hb : F.byRef = false) (hl : ds.length = F.nps) (he : ds.map .dat ++ List.replicate (F.names - F.nps) .un = δ0) (h : F.body δ0 = some (o, δ)) (ho : outR o = some r) : F.run none ds = some (r, none) := by
  subst he
  simp only [Fn.run, hb, hl, if_true, Option.bind_some, h]
  cases o <;> simp only [outR, reduceCtorEq, Option.some.injEq] at ho <;> subst ho <;> rfl
theorem fn_r {F : Fn} {δ0 : Env} (hb : F.byRef = true) (hl : ds.length + 1 = F.nps) (he : .prm xs :: (ds.map .dat ++ List.replicate (F.names - F.nps) .un) = δ0) (h : F.body δ0 = some (o, δ)) (ho : outR o = some r) (h0 : δ[0]? = some (.prm ys)) : F.run (some xs) ds = some (r, some ys) := by
  subst he
  simp only [Fn.run, hb, hl, if_true, Option.bind_some, h]
  cases o <;> simp only [outR, reduceCtorEq, Option.some.injEq] at ho <;> subst ho <;> simp only [Option.bind_some, h0]
/-! booleans -/
theorem bo_nt (h : b = false) : (!b) = true := by rw [h]; rfl
theorem bo_nf (h : b = true) : (!b) = false := by rw [h]; rfl
/-! loops -/
section
variable {σ α : Type}
/-- a loop that goes on with a state; g sets, the body is told by its own turn -/
theorem f_fold {g : Tg} {bb : Es} {enc : α → D} (E : σ → Env → Prop) (f : σ → α → σ) : ∀ (l : List α) (s0 : σ) (δ0 : Env), E s0 δ0 →
    (∀ s u δ, u ∈ l → E s δ → ∃ δ1 δ2 o, g.put (enc u) δ = some δ1 ∧ bb δ1 = some (o, δ2) ∧ (o = .nx ∨ o = .ct) ∧ E (f s u) δ2) →
    ∃ δ', forGo g bb (l.map enc) δ0 = some (.nx, δ') ∧ E (l.foldl f s0) δ'
  | [], s0, δ0, h0, _ => ⟨δ0, rfl, h0⟩
  | u :: l, s0, δ0, h0, h => by
    obtain ⟨δ1, δ2, o, e1, e2, e3, e4⟩ := h s0 u δ0 List.mem_cons_self h0
    obtain ⟨δ', a1, a2⟩ := f_fold E f l (f s0 u) δ2 e4 fun s v δ hv hs => h s v δ (List.mem_cons_of_mem _ hv) hs
    refine ⟨δ', ?_, a2⟩
    rw [List.map_cons, forGo, e1]
    simp only [Option.bind_some, e2]
    rcases e3 with rfl | rfl <;> exact a1
end
end EV
namespace EV
open IP
open PySem (PyData)
section
variable {δ : Env} {s : Slot} {i : Nat} {d : D} {ds : List D} {a c : Int}
theorem or_of {o : Out} {r : Res} (h : outR o = some r) : outR o = some r := h
theorem or_bt {b : Bool} (h : b = true) : outR (.rt (.dat (.bool b))) = some (.dat (.bool true)) := by rw [h]; rfl
theorem prop_of {p : Prop} (h : p) : p := h
theorem get_of (h : δ[i]? = some s) : δ[i]? = some s := h
theorem any_of {os : List Opd} (h : anyAt os = false) : anyAt os = false := h
theorem nol_of (h : noList d = true) : noList d = true := h
theorem line_of {n : Nat} (h : n ≤ 16000000) : n ≤ line := h
theorem line_lt {n : Nat} (h : n < 16000000) : n < line := h
theorem bne_t (h : a ≠ c) : (a != c) = true := by simpa using h
theorem bne_f (h : a = c) : (a != c) = false := by simpa using h
theorem sz_nil : ([] : List D).length ≤ line := by decide
theorem sz_le (h : ds.length ≤ 16000000) : ds.length ≤ line := h
theorem noT {us : List Int} : noList (iT us) = true := by
  simp only [noList]
  induction us with
  | nil => rfl
  | cons u us ih => simpa [noListAll] using ih
theorem noI : noList (.int a) = true := rfl
theorem noB {b : Bool} : noList (.bool b) = true := rfl
theorem noN : noList .none = true := rfl
end
end EV
namespace EV
open IP
open PySem (PyData)
section
variable {δ δ1 δ2 : Env} {s t : Slot} {o : Out}
/-- a slot that a name may be set in -/
def Free (s : Slot) : Prop := s = .un ∨ ∃ d, s = .dat d
theorem fr_u : Free .un := .inl rfl
theorem fr_d {d : D} : Free (.dat d) := .inr ⟨d, rfl⟩
theorem st_0f (h : Free t) : setSlot (t :: δ) 0 s = some (s :: δ) := by rcases h with rfl | ⟨d, rfl⟩ <;> rfl
def Step (g : Tg) (bb : Es) (x : D) (δ : Env) (P : Env → Prop) : Prop := ∃ δ1 δ2 o, g.put x δ = some δ1 ∧ bb δ1 = some (o, δ2) ∧ (o = .nx ∨ o = .ct) ∧ P δ2
theorem st_nx {g : Tg} {bb : Es} {x : D} {P : Env → Prop} (h1 : g.put x δ = some δ1) (h2 : bb δ1 = some (.nx, δ2)) (h4 : P δ2) : Step g bb x δ P := ⟨δ1, δ2, .nx, h1, h2, .inl rfl, h4⟩
theorem st_ct {g : Tg} {bb : Es} {x : D} {P : Env → Prop} (h1 : g.put x δ = some δ1) (h2 : bb δ1 = some (.ct, δ2)) (h4 : P δ2) : Step g bb x δ P := ⟨δ1, δ2, .ct, h1, h2, .inr rfl, h4⟩
/-- a loop whose turns carry a state, kept within P -/
theorem f_loop {σ α : Type} {g : Tg} {bb : Es} {enc : α → D} (E : σ → Slot → Env) (f : σ → α → σ) (P : σ → Prop) : ∀ (l : List α) (s0 : σ) (t0 : Slot), Free t0 → P s0 →
    (∀ s u t, u ∈ l → Free t → P s → P (f s u) ∧ Step g bb (enc u) (E s t) fun δ => ∃ t', Free t' ∧ δ = E (f s u) t') →
    ∃ t', Free t' ∧ P (l.foldl f s0) ∧ forGo g bb (l.map enc) (E s0 t0) = some (.nx, E (l.foldl f s0) t')
  | [], s0, t0, ht, h0, _ => ⟨t0, ht, h0, rfl⟩
  | u :: l, s0, t0, ht, h0, h => by
    obtain ⟨hp, δ1, δ2, o, e1, e2, e3, t1, ht1, rfl⟩ := h s0 u t0 List.mem_cons_self ht h0
    obtain ⟨t', a1, a2, a3⟩ := f_loop E f P l (f s0 u) t1 ht1 hp fun s v t hv ht hs => h s v t (List.mem_cons_of_mem _ hv) ht hs
    refine ⟨t', a1, a2, ?_⟩
    rw [List.map_cons, forGo, e1]
    simp only [Option.bind_some, e2]
    rcases e3 with rfl | rfl <;> exact a3
/-- the turns of a while, as many as m, ahead of one more look -/
theorem w_loop {σ : Type} {t : Et} {bb : Es} (E : σ → Env) (f : σ → σ) : ∀ (m fuel : Nat) (s0 : σ), m < fuel →
    (∀ k, k < m → ∃ δ1, t (E (Nat.repeat f k s0)) = some (true, δ1) ∧ bb δ1 = some (.nx, E (Nat.repeat f (k + 1) s0))) →
    (∃ δ1, t (E (Nat.repeat f m s0)) = some (false, δ1) ∧ δ1 = E (Nat.repeat f m s0)) → whileGo t bb fuel (E s0) = some (.nx, E (Nat.repeat f m s0))
  | 0, 0, _, h, _, _ => by omega
  | 0, fuel + 1, s0, _, _, ⟨δ1, h1, h2⟩ => by
    subst h2
    rw [whileGo]
    simp only [Nat.repeat] at h1 ⊢
    rw [h1]
    rfl
  | m + 1, 0, s0, h, _, _ => by omega
  | m + 1, fuel + 1, s0, h, hs, he => by
    have hr : ∀ k, Nat.repeat f k (f s0) = Nat.repeat f (k + 1) s0 := by
      intro k
      induction k with
      | zero => rfl
      | succ k ih => rw [Nat.repeat, ih]; rfl
    obtain ⟨δ1, e1, e2⟩ := hs 0 (by omega)
    have ih := w_loop E f m fuel (f s0) (by omega) (fun k hk => by rw [hr, hr]; exact hs (k + 1) (by omega)) (by rw [hr]; exact he)
    rw [whileGo]
    simp only [Nat.repeat] at e1 e2
    rw [e1]
    simp only [Option.bind_some, if_true, e2]
    rw [ih, hr]
/-! literal lists -/
theorem ix2 {a b k : Int} (h : 0 ≤ k ∧ k < 2) : ∃ v, bIx (.list [.int a, .int b]) (.int k) = some (.dat (.int v)) ∧ (v = a ∨ v = b) := by
  have : k = 0 ∨ k = 1 := by omega
  rcases this with rfl | rfl
  · exact ⟨a, rfl, .inl rfl⟩
  · exact ⟨b, rfl, .inr rfl⟩
theorem ix3 {a b c k : Int} (h : 0 ≤ k ∧ k < 3) : ∃ v, bIx (.list [.int a, .int b, .int c]) (.int k) = some (.dat (.int v)) ∧ (v = a ∨ v = b ∨ v = c) := by
  have : k = 0 ∨ k = 1 ∨ k = 2 := by omega
  rcases this with rfl | rfl | rfl
  · exact ⟨a, rfl, .inl rfl⟩
  · exact ⟨b, rfl, .inr (.inl rfl)⟩
  · exact ⟨c, rfl, .inr (.inr rfl)⟩
theorem p_pow {a b v : Int} (h : 0 ≤ b ∧ b ≤ 1000000 ∧ a.natAbs < 2 ^ 64) (hv : a ^ b.toNat = v) : bPow (.int a) (.int b) = some (.dat (.int v)) := by rw [bPow, if_pos h, hv]
theorem p_pow18 : bPow (.int 10) (.int 18) = some (.dat (.int 1000000000000000000)) := p_pow ⟨by decide, by decide, by decide⟩ (by decide +kernel)
theorem p_pow17 : bPow (.int 10) (.int 17) = some (.dat (.int 100000000000000000)) := p_pow ⟨by decide, by decide, by decide⟩ (by decide +kernel)
theorem p_pow12 : bPow (.int 10) (.int 12) = some (.dat (.int 1000000000000)) := p_pow ⟨by decide, by decide, by decide⟩ (by decide +kernel)
theorem p_pow15 : bPow (.int 10) (.int 15) = some (.dat (.int 1000000000000000)) := p_pow ⟨by decide, by decide, by decide⟩ (by decide +kernel)
theorem p_pow60 : bPow (.int 10) (.int 60) = some (.dat (.int 1000000000000000000000000000000000000000000000000000000000000)) := p_pow ⟨by decide, by decide, by decide⟩ (by decide +kernel)
end
end EV
namespace EV
open IP
open PySem (PyData)
section
variable {us vs : List Int} {v a : Int} {ds : List D}
theorem cut_to1 : cutR (iT us) none (some 1) = some (.dat (iT (us.take 1))) := cut_toT (a := 1)
theorem cut_to1L : cutR (iL us) none (some 1) = some (.new ((us.take 1).map .int)) := cut_toL (a := 1)
theorem cut_fr1 : cutR (iT us) (some 1) none = some (.dat (iT (us.drop 1))) := cut_frT (a := 1)
theorem cut_fr1L : cutR (iL us) (some 1) none = some (.new ((us.drop 1).map .int)) := cut_frL (a := 1)
theorem cut_toI (h : 0 ≤ v) : cutR (iT us) none (some v) = some (.dat (iT (us.take v.toNat))) := by
  obtain ⟨a, rfl⟩ : ∃ a : Nat, (a : Int) = v := ⟨v.toNat, by omega⟩
  exact cut_toT
theorem cut_frI (h : 0 ≤ v) : cutR (iT us) (some v) none = some (.dat (iT (us.drop v.toNat))) := by
  obtain ⟨a, rfl⟩ : ∃ a : Nat, (a : Int) = v := ⟨v.toNat, by omega⟩
  exact cut_frT
theorem is_ii : uIs [.int] (.int a) = some (.dat (.bool true)) := rfl
theorem is_bi : uIs [.bool] (.int a) = some (.dat (.bool false)) := rfl
theorem is_tt : uIs [.tuple] (.tuple ds) = some (.dat (.bool true)) := rfl
theorem is_tl : uIs [.tuple] (.list ds) = some (.dat (.bool false)) := rfl
theorem is_lt : uIs [.list] (.tuple ds) = some (.dat (.bool false)) := rfl
theorem is_ll : uIs [.list] (.list ds) = some (.dat (.bool true)) := rfl
theorem uisn : uIsN .none = some (.dat (.bool true)) := rfl
theorem uisn_i : uIsN (.int a) = some (.dat (.bool false)) := rfl
theorem uisn_t : uIsN (.tuple ds) = some (.dat (.bool false)) := rfl
theorem unn : uNotN .none = some (.dat (.bool false)) := rfl
theorem unn_i : uNotN (.int a) = some (.dat (.bool true)) := rfl
theorem unn_t : uNotN (.tuple ds) = some (.dat (.bool true)) := rfl
/-- an index that is told as an integer -/
theorem p_ix0 (h : 0 < us.length) : bIx (iT us) (.int 0) = some (.dat (.int (us.getD 0 0))) := p_ixT (m := 0) h
end
end EV
namespace EV
open IP
theorem b_len2 {x y : D} : biLen [.tuple [x, y]] = some (.dat (.int 2)) := rfl
theorem b_len3 {x y z : D} : biLen [.tuple [x, y, z]] = some (.dat (.int 3)) := rfl
end EV
namespace EV
open IP
open PySem (PyData)
section
variable {us vs : List Int} {v a k b : Int} {ds : List D} {δ δ1 δ2 δ3 : Env} {i n m : Nat}
abbrev encE (us : List Int) (k : Nat) : D := .tuple [.int (k : Int), .int (us.getD k 0)]
theorem enumD_ints (us : List Int) : enumD 0 (us.map .int) = (List.range us.length).map (encE us) := by
  rw [IPL.enumD_eq]
  simp only [List.length_map]
  apply List.map_congr_left
  intro k hk
  have := List.mem_range.mp hk
  simp [encE, List.getD, this]
theorem i_enT {f : Eo} (h : f δ = some (.val (iT us), δ1)) : iEnum f δ = some (((List.range us.length).map (encE us), none), δ1) := by simp [iEnum, h, enumD_ints]
theorem i_enL {f : Eo} (h : f δ = some (.val (iL us), δ1)) : iEnum f δ = some (((List.range us.length).map (encE us), none), δ1) := by simp [iEnum, h, enumD_ints]
theorem downD_rev (n : Nat) : downD ((n : Int) - 1) n = (List.range n).reverse.map encN := by
  unfold downD
  apply List.ext_getElem
  · simp
  · intro i h1 h2
    simp at h1 h2
    simp only [List.getElem_map, List.getElem_range, List.getElem_reverse, List.length_range, encN]
    congr 1
    omega
theorem iRevR1_s (f : Eo) (δ : Env) : iRevR1 f δ = (f δ).bind fun p => match p.1 with
    | .val (.int j) => if small60 j = true then some ((downD ((j.toNat : Int) - 1) j.toNat, none), p.2) else none
    | _ => none := by
  unfold iRevR1 small60
  congr 1
  funext p
  obtain ⟨o, e⟩ := p
  cases o with
  | val d => cases d <;> simp only [decide_eq_true_eq]
  | «at» i => rfl
theorem iRevR1_at {f : Eo} {j : Int} (h : f δ = some (.val (.int j), δ1)) (h2 : small60 j = true) : iRevR1 f δ = some ((downD ((j.toNat : Int) - 1) j.toNat, none), δ1) := by
  rw [iRevR1_s, h]
  simp only [Option.bind_some]
  rw [if_pos h2]
theorem i_rr1 {f : Eo} (h : f δ = some (.val (.int (n : Int)), δ1)) (h2 : n ≤ 1000000000) : iRevR1 f δ = some (((List.range n).reverse.map encN, none), δ1) := by
  have e := iRevR1_at h (small60_of (show -1000000000 ≤ (n : Int) ∧ (n : Int) ≤ 1000000000 from ⟨by omega, by omega⟩))
  rw [Int.toNat_natCast, downD_rev] at e
  exact e
theorem s_setIxI {ix f : Eo} (h : f δ = some (.val (.int v), δ1)) (h0 : ownAt δ1 i = true) (h1 : ix δ1 = some (.val (.int k), δ2)) (h2 : δ2[i]? = some (.own (us.map .int))) (h3 : 0 ≤ k ∧ k < us.length) (h4 : δ2.set i (.own ((us.set k.toNat v).map .int)) = δ3) : sSetIx i ix f δ = some (.nx, δ3) := by
  obtain ⟨m, rfl⟩ : ∃ m : Nat, (m : Int) = k := ⟨k.toNat, by omega⟩
  exact s_setIx h h0 h1 h2 (by simp; omega) (by rw [← h4, Int.toNat_natCast, List.map_set])
theorem s_setIxN {ix f : Eo} (h : f δ = some (.val (.int v), δ1)) (h0 : ownAt δ1 i = true) (h1 : ix δ1 = some (.val (.int (m : Int)), δ2)) (h2 : δ2[i]? = some (.own (us.map .int))) (h3 : m < us.length) (h4 : δ2.set i (.own ((us.set m v).map .int)) = δ3) : sSetIx i ix f δ = some (.nx, δ3) :=
  s_setIx h h0 h1 h2 (by simpa using h3) (by rw [← h4, List.map_set])
theorem s_augIxN {ix f : Eo} {op : Int → Int → Int} (h0 : ownAt δ i = true) (h1 : ix δ = some (.val (.int (m : Int)), δ1)) (h2 : δ1[i]? = some (.own (us.map .int))) (h3 : f δ1 = some (.val (.int b), δ2)) (h4 : δ2[i]? = some (.own (us.map .int))) (hk : m < us.length) (h5 : δ2.set i (.own ((us.set m (op (us.getD m 0) b)).map .int)) = δ3) : sAugIx i ix op f δ = some (.nx, δ3) := by
  have hg : ownGet δ1 i (m : Int) = some (.int (us.getD m 0)) := by
    simp only [ownGet, h2, atD, List.length_map, ixNn hk, Option.bind_some]
    rw [List.getElem?_map, List.getElem?_eq_getElem hk]
    simp [List.getD, hk]
  simp only [sAugIx, h0, if_true, h1, Option.bind_some, hg, h3, withOwn, h4, List.length_map, ixNn hk, Option.map_some]
  rw [← h5, List.map_set]
theorem s_pop (h : δ[i]? = some (.own (us.map .int))) (h2 : us ≠ []) (h3 : δ.set i (.own (us.dropLast.map .int)) = δ1) : sPop i δ = some (.nx, δ1) := by
  have : (us.map PyData.int).isEmpty = false := by cases us <;> simp_all
  simp only [sPop, withOwn, h, this, Option.map_some, ← h3, List.map_dropLast]
  rfl
theorem flat_rep (m : Nat) : (List.replicate m [PyData.int a]).flatten = (List.replicate m a).map PyData.int := by
  induction m with
  | zero => rfl
  | succ m ih => rw [List.replicate_succ, List.flatten_cons, ih]; rfl
theorem small63 {k : Int} (h : k ≤ 10000000) (h2 : -10000000 ≤ k) : -(2 ^ 63) ≤ k ∧ k < 2 ^ 63 := by omega
theorem small62 {k : Int} (h : k ≤ 10000000) (h2 : -10000000 ≤ k) : -(2 ^ 62) ≤ k ∧ k ≤ 2 ^ 62 := by omega
theorem p_repL (h : k ≤ 10000000) (h2 : -10000000 ≤ k) : bMul (.list [.int a]) (.int k) = some (.new ((List.replicate k.toNat a).map .int)) := by
  have hl : ([PyData.int a] : List D).length * k.toNat ≤ line := by
    show 1 * k.toNat ≤ 16000000
    omega
  rw [bMul, if_pos ⟨(small63 h h2).1, (small63 h h2).2, hl⟩, flat_rep]
theorem p_repT (h : k ≤ 10000000) (h2 : -10000000 ≤ k) : bMul (.tuple [.int a]) (.int k) = some (.dat (iT (List.replicate k.toNat a))) := by
  have hl : ([PyData.int a] : List D).length * k.toNat ≤ line := by
    show 1 * k.toNat ≤ 16000000
    omega
  rw [bMul, if_pos ⟨(small62 h h2).1, (small62 h h2).2, hl⟩, flat_rep]
theorem tr_T : truth (iT us) = some (decide (us ≠ [])) := by cases us <;> simp [truth]
theorem tr_L : truth (iL us) = some (decide (us ≠ [])) := by cases us <;> simp [truth]
theorem cut_last1 : cutR (iT us) (some (-1)) none = some (.dat (iT (us.drop (us.length - 1)))) := by
  simp only [cutR, cutD, Option.some.injEq, Res.dat.injEq, PyData.tuple.injEq]
  rw [show clampIx (us.map PyData.int).length (us.map PyData.int).length none = (us.map PyData.int).length from rfl, ← List.map_drop, List.take_of_length_le (by simp)]
  congr 2
  simp [clampIx]
  omega
theorem cut_last1L : cutR (iL us) (some (-1)) none = some (.new ((us.drop (us.length - 1)).map .int)) := by
  have := cut_last1 (us := us)
  simp only [cutR, Option.some.injEq, Res.dat.injEq, PyData.tuple.injEq] at this
  simp only [cutR, this]
theorem p_ixLastT (h : us ≠ []) : bIx (iT us) (.int (-1)) = some (.dat (.int (us.getD (us.length - 1) 0))) := by
  have hl : 0 < us.length := List.length_pos_iff.mpr h
  have h1 : IP.ixN us.length (-1) = some (us.length - 1) := by
    unfold IP.ixN
    rw [if_neg (by omega), if_pos (by omega)]
    congr 1
    omega
  simp only [bIx, atD, List.length_map, h1, Option.bind_some, List.getElem?_map]
  rw [List.getElem?_eq_getElem (by omega)]
  simp [List.getD, show us.length - 1 < us.length by omega]
end
end EV
namespace EV
open IP
open PySem (PyData)
section
variable {us : List Int} {δ : Env} {i n : Nat}
theorem stl_o (h : δ[i]? = some (.own (us.map .int))) : still δ (us.map .int) (some i) = true := by
  simp only [still, h, slotD, IPL.same_ints]
theorem l_intR {vs : List Nat} {g : Tg} {e : Ev} {src : List D} {ow : Option Nat} {enc : Nat → D} {f : Nat → Int} (h : ∀ u, u < n → IPL.lcTurn vs g tYes e (enc u) δ = some (some (.int (f u)), δ)) (hst : still δ src ow = true) : lcGo vs g tYes e src ow ((List.range n).map enc) δ = some (((List.range n).map f).map .int, δ) :=
  l_int (fun u hu => h u (List.mem_range.mp hu)) hst
theorem f_inv {α : Type} {g : Tg} {bb : Es} {enc : α → D} (Q : Nat → Env → Prop) : ∀ (l : List α) (k : Nat) (δ0 : Env), Q k δ0 →
    (∀ i u δ, l[i]? = some u → Q (k + i) δ → Step g bb (enc u) δ (Q (k + i + 1))) → ∃ δ', forGo g bb (l.map enc) δ0 = some (.nx, δ') ∧ Q (k + l.length) δ'
  | [], k, δ0, h0, _ => ⟨δ0, rfl, h0⟩
  | u :: l, k, δ0, h0, h => by
    obtain ⟨δ1, δ2, o, e1, e2, e3, e4⟩ := h 0 u δ0 rfl h0
    obtain ⟨δ', a1, a2⟩ := f_inv Q l (k + 1) δ2 e4 fun i v δ hv hq => by
      have := h (i + 1) v δ (by simpa using hv) (by rw [show k + (i + 1) = k + 1 + i by omega]; exact hq)
      rw [show k + (i + 1) + 1 = k + 1 + i + 1 by omega] at this
      exact this
    refine ⟨δ', ?_, by rw [List.length_cons, show k + (l.length + 1) = k + 1 + l.length by omega]; exact a2⟩
    rw [List.map_cons, forGo, e1]
    simp only [Option.bind_some, e2]
    rcases e3 with rfl | rfl <;> exact a1
/-- a loop over 0 .. n - 1 -/
theorem f_range {g : Tg} {bb : Es} {enc : Nat → D} (Q : Nat → Env → Prop) (n : Nat) (δ0 : Env) (h0 : Q 0 δ0) (h : ∀ k δ, k < n → Q k δ → Step g bb (enc k) δ (Q (k + 1))) :
    ∃ δ', forGo g bb ((List.range n).map enc) δ0 = some (.nx, δ') ∧ Q n δ' := by
  obtain ⟨δ', a, b⟩ := f_inv (enc := enc) (g := g) (bb := bb) Q (List.range n) 0 δ0 h0 fun i u δ hi hq => by
    have hl : i < n := by
      rcases Nat.lt_or_ge i n with h | h
      · exact h
      · rw [List.getElem?_eq_none (by simpa using h)] at hi
        cases hi
    rw [List.getElem?_range hl] at hi
    cases hi
    rw [Nat.zero_add] at hq ⊢
    exact h _ δ hl hq
  rw [List.length_range, Nat.zero_add] at b
  exact ⟨δ', a, b⟩
end
end EV
namespace EV
open IP
theorem p_ixDT {ds : List D} {k : Nat} (h : k < ds.length) : bIx (.tuple ds) (.int (k : Int)) = some (.dat (ds.getD k .none)) := by
  simp only [bIx, atD, ixNn h, Option.bind_some]
  rw [List.getElem?_eq_getElem h]
  simp [List.getD, h]
theorem p_ixDL {ds : List D} {k : Nat} (h : k < ds.length) : bIx (.list ds) (.int (k : Int)) = some (.dat (ds.getD k .none)) := by
  simp only [bIx, atD, ixNn h, Option.bind_some]
  rw [List.getElem?_eq_getElem h]
  simp [List.getD, h]
theorem p_ix20 {x y : D} : bIx (.tuple [x, y]) (.int 0) = some (.dat x) := rfl
theorem p_ix21 {x y : D} : bIx (.tuple [x, y]) (.int 1) = some (.dat y) := rfl
/-- what _law_alike takes for like itself -/
def okA : Nat → D → Bool
  | _, .int _ => true
  | _, .none => true
  | _, .bool _ => true
  | k + 1, .tuple ds => decide (ds.length ≤ 1000000) && ds.all (okA k)
  | k + 1, .list ds => decide (ds.length ≤ 1000000) && ds.all (okA k)
  | _, _ => false
theorem okA_row {k : Nat} {us : List Int} (h : us.length ≤ 1000000) : okA (k + 1) (iT us) = true := by
  simp only [okA, List.length_map, decide_eq_true h, Bool.true_and, List.all_map, List.all_eq_true]
  intro u _
  cases k <;> rfl
theorem okA_rowL {k : Nat} {us : List Int} (h : us.length ≤ 1000000) : okA (k + 1) (iL us) = true := by
  simp only [okA, List.length_map, decide_eq_true h, Bool.true_and, List.all_map, List.all_eq_true]
  intro u _
  cases k <;> rfl
end EV
namespace EV
open IP
open PySem (PyData)
theorem p_shrN {e k : Nat} : bShr (.int (e : Int)) (.int (k : Int)) = some (.dat (.int ((e / 2 ^ k : Nat) : Int))) := by
  rw [bShr, if_pos (by omega), Int.toNat_natCast]
  congr 3
theorem p_and1 {m : Nat} : bAnd (.int (m : Int)) (.int 1) = some (.dat (.int ((m % 2 : Nat) : Int))) := by
  rw [bAnd, if_pos ⟨by omega, by omega⟩, Int.toNat_natCast, show (1 : Int).toNat = 1 from rfl, Nat.and_one_is_mod]
/-- bit_length -/
def bl (e : Nat) : Nat := if e = 0 then 0 else e.log2 + 1
theorem bl_lt (e : Nat) : e < 2 ^ bl e := by
  unfold bl
  split
  · omega
  · exact Nat.lt_log2_self
theorem bl_le {e n : Nat} (h : e < 2 ^ n) : bl e ≤ n := by
  unfold bl
  split
  · omega
  · rename_i h0
    have := (Nat.log2_lt h0).mpr h
    omega
theorem p_bitsN {e : Nat} : uBits (.int (e : Int)) = some (.dat (.int ((bl e : Nat) : Int))) := by
  simp only [uBits, bl, Int.natAbs_natCast, Int.natCast_eq_zero]
end EV
namespace EV
open IP
section
variable {us : List Int} {k : Nat} {v : Int}
theorem ixNneg {n k : Nat} (h : k < n) : IP.ixN n (-1 - (k : Int)) = some (n - 1 - k) := by
  unfold IP.ixN
  rw [if_neg (by omega), if_pos (by omega)]
  congr 1
  omega
theorem p_ixNegT (h : k < us.length) : bIx (iT us) (.int (-1 - (k : Int))) = some (.dat (.int (us.getD (us.length - 1 - k) 0))) := by
  simp only [bIx, atD, List.length_map, ixNneg h, Option.bind_some, List.getElem?_map]
  rw [List.getElem?_eq_getElem (by omega)]
  simp [List.getD, show us.length - 1 - k < us.length by omega]
theorem p_ixNegL (h : k < us.length) : bIx (iL us) (.int (-1 - (k : Int))) = some (.dat (.int (us.getD (us.length - 1 - k) 0))) := by
  simp only [bIx, atD, List.length_map, ixNneg h, Option.bind_some, List.getElem?_map]
  rw [List.getElem?_eq_getElem (by omega)]
  simp [List.getD, show us.length - 1 - k < us.length by omega]
theorem p_addsL (h : 1 + us.length ≤ 16000000) : bAdd (.list [.int v]) (iL us) = some (.new ((v :: us).map .int)) := by
  have := p_addL (us := [v]) (vs := us) (by simpa using h)
  simpa using this
theorem p_tupRev : uTupRev (iL us) = some (.dat (iT us.reverse)) := by simp only [uTupRev, ← List.map_reverse]
end
end EV
namespace EV
open IP
theorem p_ix30 {x y z : D} : bIx (.tuple [x, y, z]) (.int 0) = some (.dat x) := rfl
theorem p_ix31 {x y z : D} : bIx (.tuple [x, y, z]) (.int 1) = some (.dat y) := rfl
theorem p_ix32 {x y z : D} : bIx (.tuple [x, y, z]) (.int 2) = some (.dat z) := rfl

end EV
end
section
set_option linter.all false
/-! Ev2: more rules. -/
namespace EV
open IP
open PySem (PyData)
section
variable {us : List Int} {δ δ1 δ2 δ3 δ4 : Env} {xs ys : List D}
theorem b_sum2L : biSum2 [iL us] = some (.dat (.int us.sum)) := by simp only [biSum2, IPL.intsOf_map, Option.map_some]
theorem b_sum2T : biSum2 [iT us] = some (.dat (.int us.sum)) := by simp only [biSum2, IPL.intsOf_map, Option.map_some]
theorem e_lc2 {vs vs1 : List Nat} {it it1 : Ei} {g g1 : Tg} {t t1 : Et} {e : Ev} {ow : Option Nat} (h1 : it δ = some ((xs, ow), δ1)) (h2 : unAll vs δ1 = some δ2) (h4 : lc2Go vs vs1 g t it1 g1 t1 e xs ow xs δ2 = some (ys, δ3)) (h3 : ys.length ≤ line) (h5 : backAll δ1 vs δ3 = δ4) : vLc2 vs vs1 it g t it1 g1 t1 e δ = some (.new ys, δ4) := by
  simp only [vLc2, h1, h2, Option.bind_some]
  rw [h4, ← h5]
  simp only [Option.bind_some, if_pos h3]
/-- one turn of the outer for; without effect -/
def lc2Turn (vs vs1 : List Nat) (g : Tg) (t : Et) (it1 : Ei) (g1 : Tg) (t1 : Et) (e : Ev) (x : D) (δ : Env) (r : List D) : Prop :=
  ∃ δ1 δ2 b, g.put x δ = some δ1 ∧ t δ1 = some (b, δ2) ∧ ((b = true ∧ ∃ ys ow δ3 δ4 δ5, it1 δ2 = some ((ys, ow), δ3) ∧ unAll vs1 δ3 = some δ4 ∧ lcGo vs1 g1 t1 e ys ow ys δ4 = some (r, δ5) ∧ unAll vs δ5 = some δ) ∨ (b = false ∧ r = [] ∧ unAll vs δ2 = some δ))
theorem l2_go {α : Type} {vs vs1 : List Nat} {g g1 : Tg} {t t1 : Et} {it1 : Ei} {e : Ev} {src : List D} {ow : Option Nat} {enc : α → D} {f : α → List D} (hst : still δ src ow = true) : ∀ (l : List α), (∀ u ∈ l, lc2Turn vs vs1 g t it1 g1 t1 e (enc u) δ (f u)) →
    lc2Go vs vs1 g t it1 g1 t1 e src ow (l.map enc) δ = some ((l.map f).flatten, δ)
  | [], _ => by
    rw [List.map_nil, lc2Go, if_pos hst]
    rfl
  | u :: l, h => by
    have ih := l2_go (vs := vs) (vs1 := vs1) (g := g) (g1 := g1) (t := t) (t1 := t1) (it1 := it1) (e := e) (enc := enc) (f := f) hst l fun v hv => h v (List.mem_cons_of_mem _ hv)
    obtain ⟨δ1, δ2, b, e1, e2, e3⟩ := h u List.mem_cons_self
    rw [List.map_cons, lc2Go, if_pos hst, e1]
    simp only [Option.bind_some, e2]
    rcases e3 with ⟨rfl, ys, ow, δ3, δ4, δ5, a1, a2, a3, a4⟩ | ⟨rfl, hr, a1⟩
    · simp only [if_true, a1, Option.bind_some, a2, a3, a4, ih, Option.map_some, List.map_cons, List.flatten_cons]
    · simp only [Bool.false_eq_true, if_false, a1, Option.bind_some, ih, List.map_cons, List.flatten_cons, hr, List.nil_append]
theorem l2_y {vs vs1 : List Nat} {g g1 : Tg} {t1 : Et} {it1 : Ei} {e : Ev} {x : D} {r : List D} {ow : Option Nat} {δ5 : Env} (h1 : g.put x δ = some δ1) (h2 : it1 δ1 = some ((ys, ow), δ2)) (h3 : unAll vs1 δ2 = some δ3) (h4 : lcGo vs1 g1 t1 e ys ow ys δ3 = some (r, δ5)) (h5 : unAll vs δ5 = some δ) : lc2Turn vs vs1 g tYes it1 g1 t1 e x δ r :=
  ⟨δ1, δ1, true, h1, rfl, .inl ⟨rfl, ys, ow, δ2, δ3, δ5, h2, h3, h4, h5⟩⟩
theorem t_notV {f : Eo} {p : Opd} {d : D} {b : Bool} (h : f δ = some (p, δ1)) (h2 : rd δ1 p = some d) (h3 : truth d = some b) : tNot (tV f) δ = some (!b, δ1) := t_not (t_V h h2 h3)
end
end EV
end
section
set_option linter.all false
namespace IPL
open IP
open PySem (PyData)
abbrev W_power_of_1 (c : Call) : Es := (sSeq (sSet 2 (fBin bMul (oVar 2) (oVar 2))) (sIf (tV (oV (fBin bAnd (oV (fBin bShr (oVar 1) (oVar 3))) (oV (vC (.int 1)))))) (sSet 2 (fBin bMul (oVar 2) (oVar 0))) sPass))
abbrev G_power_of (c : Call) : Es := (sSeq (sSet 2 (vC (.int 1))) (sSeq (sFor (iRevR1 (oV (fUn uBits (oVar 1)))) (.nm 3) (W_power_of_1 c)) (sRet (vVar 2))))
def F_power_of (c : Call) : Fn := ⟨false, 2, 4, G_power_of c⟩
abbrev W_inverse_1 (c : Call) : Es := (sAug 2 (fun i j => i + j) (oV (vC (.int 1))))
abbrev G_inverse (c : Call) : Es := (sSeq (sSet 2 (vC (.int 1))) (sSeq (sWhile (tB (fBin bNe (oV (fBin bMod (oV (fBin bMul (oVar 1) (oVar 2))) (oVar 0))) (oV (vC (.int 1))))) (W_inverse_1 c)) (sRet (vVar 2))))
def F_inverse (c : Call) : Fn := ⟨false, 2, 3, G_inverse c⟩
abbrev G_is_between (c : Call) : Es := (sRet (vAnd (fUn (uIs [.int]) (oVar 0)) (vAnd (vNot (fUn (uIs [.bool]) (oVar 0))) (vChain bLe bLe (oVar 1) (oVar 0) (oVar 2)))))
def F_is_between (c : Call) : Fn := ⟨false, 3, 3, G_is_between c⟩
abbrev W_are_numbers_1 (c : Call) : Ev := (vCall (c "is_between") (aCons (oVar 3) (aCons (oV (vC (.int 0))) (aCons (oV (fBin bSub (oVar 0) (oV (vC (.int 1))))) aNil))))
abbrev G_are_numbers (c : Call) : Es := (sSeq (sIf (tOr (tNot (tV (oV (fUn (uIs [.tuple]) (oVar 1))))) (tB (fBin bGt (oV (vBi biLen (aCons (oVar 1) aNil))) (oVar 2)))) (sRet (vC (.bool false))) sPass) (sRet (vBi biAll (aCons (oV (vLc [3] (iE (oVar 1)) (.nm 3) tYes (W_are_numbers_1 c))) aNil))))
def F_are_numbers (c : Call) : Fn := ⟨false, 3, 4, G_are_numbers c⟩
abbrev G_check_prime (c : Call) : Es := (sIf (tOr (tNot (tV (oV (vCall (c "is_between") (aCons (oVar 0) (aCons (oV (vC (.int 2))) (aCons (oV (vC (.int 7))) aNil))))))) (tB (fBin bNotIn (oVar 0) (oV (vC (.tuple ([2, 3, 5, 7].map .int))))))) sNever sPass)
def F_check_prime (c : Call) : Fn := ⟨false, 1, 1, G_check_prime c⟩
abbrev G_check_number (c : Call) : Es := (sIf (tNot (tV (oV (vCall (c "is_between") (aCons (oVar 0) (aCons (oVar 1) (aCons (oVar 2) aNil))))))) sNever sPass)
def F_check_number (c : Call) : Fn := ⟨false, 3, 3, G_check_number c⟩
abbrev G_check_taps (c : Call) : Es := (sIf (tNot (tV (oV (vCall (c "are_numbers") (aCons (oVar 0) (aCons (oVar 1) (aCons (oV (vC (.int 60))) aNil))))))) sNever sPass)
def F_check_taps (c : Call) : Fn := ⟨false, 2, 2, G_check_taps c⟩
abbrev G_are_so_many (c : Call) : Es := (sRet (vAnd (vCall (c "are_numbers") (aCons (oVar 0) (aCons (oVar 1) (aCons (oVar 2) aNil)))) (fBin bEq (oV (vBi biLen (aCons (oVar 1) aNil))) (oVar 2))))
def F_are_so_many (c : Call) : Fn := ⟨false, 3, 3, G_are_so_many c⟩
abbrev G_check_start (c : Call) : Es := (sIf (tNot (tV (oV (vCall (c "are_so_many") (aCons (oVar 0) (aCons (oVar 2) (aCons (oV (vBi biLen (aCons (oVar 1) aNil))) aNil))))))) sNever sPass)
def F_check_start (c : Call) : Fn := ⟨false, 3, 3, G_check_start c⟩
abbrev G_check_wired (c : Call) : Es := (sSeq (sEx (vCall (c "check_prime") (aCons (oVar 0) aNil))) (sSeq (sEx (vCall (c "check_taps") (aCons (oVar 0) (aCons (oVar 1) aNil)))) (sEx (vCall (c "check_start") (aCons (oVar 0) (aCons (oVar 1) (aCons (oVar 2) aNil)))))))
def F_check_wired (c : Call) : Fn := ⟨false, 3, 3, G_check_wired c⟩
abbrev G_check_fraction (c : Call) : Es := (sSeq (sIf (tOr (tNot (tV (oV (fUn (uIs [.tuple]) (oVar 1))))) (tB (fBin bNe (oV (vBi biLen (aCons (oVar 1) aNil))) (oV (vC (.int 2)))))) sNever sPass) (sSeq (sUnp [2, 3] (vVar 1)) (sIf (tOr (tNot (tV (oV (vCall (c "is_between") (aCons (oVar 2) (aCons (oV (fUn uNeg (oV (vC (.int 1000000000000000000000000000000000000000000000000000000000000))))) (aCons (oV (vC (.int 1000000000000000000000000000000000000000000000000000000000000))) aNil))))))) (tOr (tNot (tV (oV (vCall (c "is_between") (aCons (oVar 3) (aCons (oV (vC (.int 1))) (aCons (oV (vC (.int 1000000000000000000000000000000000000000000000000000000000000))) aNil))))))) (tB (fBin bEq (oV (fBin bMod (oVar 3) (oVar 0))) (oV (vC (.int 0))))))) sNever sPass)))
def F_check_fraction (c : Call) : Fn := ⟨false, 2, 4, G_check_fraction c⟩
abbrev W_value_of_1 (c : Call) : Es := (sSet 2 (fBin bAdd (oV (fBin bMul (oVar 2) (oVar 0))) (oVar 3)))
abbrev G_value_of (c : Call) : Es := (sSeq (sSet 2 (vC (.int 0))) (sSeq (sFor (iRevS (oV (vVar 1))) (.nm 3) (W_value_of_1 c)) (sRet (vVar 2))))
def F_value_of (c : Call) : Fn := ⟨false, 2, 4, G_value_of c⟩
abbrev W_figures_of_1 (c : Call) : Es := (sSeq (sApp 4 (vCall (c "_first_figure") (aCons (oVar 0) (aCons (oVar 1) (aCons (oVar 2) aNil))))) (sSet 1 (vCall (c "rest_above") (aCons (oVar 0) (aCons (oVar 1) (aCons (oVar 2) aNil))))))
abbrev G_figures_of (c : Call) : Es := (sSeq (sSet 4 (vLst aNil)) (sSeq (sFor (iRange1 (oVar 3)) (.nm 5) (W_figures_of_1 c)) (sRet (vBi biTuple (aCons (oVar 4) aNil)))))
def F_figures_of (c : Call) : Fn := ⟨false, 4, 6, G_figures_of c⟩
abbrev G_rest_above (c : Call) : Es := (sRet (fBin bFdiv (oV (fBin bSub (oVar 1) (oV (fBin bMul (oV (vCall (c "_first_figure") (aCons (oVar 0) (aCons (oVar 1) (aCons (oVar 2) aNil))))) (oVar 2))))) (oVar 0)))
def F_rest_above (c : Call) : Fn := ⟨false, 3, 3, G_rest_above c⟩
abbrev G_lowest (c : Call) : Es := (sSeq (sSet 2 (vBi biGcd (aCons (oVar 0) (aCons (oVar 1) aNil)))) (sRet (vTup (aCons (oV (fBin bFdiv (oVar 0) (oVar 2))) (aCons (oV (fBin bFdiv (oVar 1) (oVar 2))) aNil)))))
def F_lowest (c : Call) : Fn := ⟨false, 2, 3, G_lowest c⟩
abbrev G__first_figure (c : Call) : Es := (sRet (fBin bMod (oV (fBin bMul (oVar 1) (oV (vCall (c "inverse") (aCons (oVar 0) (aCons (oVar 2) aNil)))))) (oVar 0)))
def F__first_figure (c : Call) : Fn := ⟨false, 3, 3, G__first_figure c⟩
abbrev W_carry_run_1 (c : Call) : Ev := (fBin bMul (oVar 8) (oV (fBin bIx (oVar 5) (oV (fBin bSub (oV (fUn uNeg (oV (vC (.int 1))))) (oVar 7))))))
abbrev W_carry_run_2 (c : Call) : Es := (sSeq (sSet 6 (fBin bAdd (oVar 3) (oV (vBi biSum2 (aCons (oV (vLc [7, 8] (iEnum (oV (vVar 1))) (.tup [7, 8]) tYes (W_carry_run_1 c))) aNil))))) (sSeq (sApp 5 (fBin bMod (oVar 6) (oVar 0))) (sSet 3 (fBin bFdiv (oVar 6) (oVar 0)))))
abbrev G_carry_run (c : Call) : Es := (sSeq (sEx (vCall (c "check_wired") (aCons (oVar 0) (aCons (oVar 1) (aCons (oVar 2) aNil))))) (sSeq (sEx (vCall (c "check_number") (aCons (oVar 3) (aCons (oV (fUn uNeg (oV (vC (.int 10000000000000000000000000000000000000000000000000000000000000000000000))))) (aCons (oV (vC (.int 10000000000000000000000000000000000000000000000000000000000000000000000))) aNil))))) (sSeq (sEx (vCall (c "check_number") (aCons (oVar 4) (aCons (oV (vC (.int 0))) (aCons (oV (vC (.int 400))) aNil))))) (sSeq (sSet 5 (vBi biList (aCons (oV (fSl (oVar 2) pNo (pSo (oVar 4)))) aNil))) (sSeq (sWhile (tB (fBin bLt (oV (vBi biLen (aCons (oVar 5) aNil))) (oVar 4))) (W_carry_run_2 c)) (sRet (vBi biTuple (aCons (oVar 5) aNil))))))))
def F_carry_run (c : Call) : Fn := ⟨false, 5, 9, G_carry_run c⟩
abbrev G_carry_fraction (c : Call) : Es := (sSeq (sEx (vCall (c "check_wired") (aCons (oVar 0) (aCons (oVar 1) (aCons (oVar 2) aNil))))) (sSeq (sEx (vCall (c "check_number") (aCons (oVar 3) (aCons (oV (fUn uNeg (oV (vC (.int 10000000000000000000000000000000000000000000000000000000000000000000000))))) (aCons (oV (vC (.int 10000000000000000000000000000000000000000000000000000000000000000000000))) aNil))))) (sSeq (sSet 4 (fBin bSub (oV (vCall (c "value_of") (aCons (oVar 0) (aCons (oV (fBin bAdd (oV (vTup (aCons (oV (vC (.int 0))) aNil))) (oVar 1))) aNil)))) (oV (vC (.int 1))))) (sSeq (sSet 5 (fBin bSub (oV (vCall (c "_told_by") (aCons (oVar 0) (aCons (oVar 1) (aCons (oVar 2) aNil))))) (oV (fBin bMul (oV (vCall (c "power_of") (aCons (oVar 0) (aCons (oV (vBi biLen (aCons (oVar 1) aNil))) aNil)))) (oVar 3))))) (sRet (vIte (tB (fBin bGt (oVar 4) (oV (vC (.int 0))))) (vCall (c "lowest") (aCons (oVar 5) (aCons (oVar 4) aNil))) (vCall (c "lowest") (aCons (oV (fUn uNeg (oVar 5))) (aCons (oV (fUn uNeg (oVar 4))) aNil)))))))))
def F_carry_fraction (c : Call) : Fn := ⟨false, 4, 6, G_carry_fraction c⟩
abbrev W__told_by_1 (c : Call) : Es := (sAug 3 (fun i j => i + j) (oV (fBin bMul (oV (fBin bMul (oVar 5) (oV (vCall (c "power_of") (aCons (oVar 0) (aCons (oV (fBin bAdd (oVar 4) (oV (vC (.int 1))))) aNil)))))) (oV (vCall (c "value_of") (aCons (oVar 0) (aCons (oV (fSl (oVar 2) pNo (pSo (oV (fBin bSub (oV (fBin bSub (oV (vBi biLen (aCons (oVar 2) aNil))) (oVar 4))) (oV (vC (.int 1)))))))) aNil)))))))
abbrev G__told_by (c : Call) : Es := (sSeq (sSet 3 (fUn uNeg (oV (vCall (c "value_of") (aCons (oVar 0) (aCons (oVar 2) aNil)))))) (sSeq (sFor (iEnum (oV (vVar 1))) (.tup [4, 5]) (W__told_by_1 c)) (sRet (vVar 3))))
def F__told_by (c : Call) : Fn := ⟨false, 3, 6, G__told_by c⟩
abbrev G_fraction_row (c : Call) : Es := (sSeq (sEx (vCall (c "check_prime") (aCons (oVar 0) aNil))) (sSeq (sEx (vCall (c "check_fraction") (aCons (oVar 0) (aCons (oVar 1) aNil)))) (sSeq (sEx (vCall (c "check_number") (aCons (oVar 2) (aCons (oV (vC (.int 0))) (aCons (oV (vC (.int 400))) aNil))))) (sSeq (sUnp [3, 4] (vVar 1)) (sRet (vCall (c "figures_of") (aCons (oVar 0) (aCons (oVar 3) (aCons (oVar 4) (aCons (oVar 2) aNil))))))))))
def F_fraction_row (c : Call) : Fn := ⟨false, 3, 5, G_fraction_row c⟩
abbrev G__law_taken (c : Call) : Es := (sSeq (sIf (tB (fBin bGt (oV (fBin bIx (oVar 0) (oV (vC (.int 3))))) (oV (vC (.int 0))))) (sSeq (sSet 2 (fBin bMod (oV (vBi biInt (aCons (oV (fBin bIx (oVar 0) (oV (vC (.int 3))))) aNil))) (oVar 1))) (sSeq (sSetIx 0 (oV (vC (.int 3))) (oV (fBin bFdiv (oV (fBin bIx (oVar 0) (oV (vC (.int 3))))) (oVar 1)))) (sRet (vVar 2)))) sPass) (sSeq (sSetIx 0 (oV (vC (.int 1))) (oV (fBin bAdd (oV (fBin bIx (oVar 0) (oV (vC (.int 1))))) (oV (vC (.int 1)))))) (sSeq (sIf (tB (fBin bGt (oV (fBin bIx (oVar 0) (oV (vC (.int 1))))) (oV (vBi biLen (aCons (oV (fBin bIx (oVar 0) (oV (vC (.int 0))))) aNil))))) (sSeq (sSetIx 0 (oV (vC (.int 2))) (oV (fBin bMod (oV (vBi biInt (aCons (oV (fBin bAdd (oV (fBin bMul (oV (fBin bIx (oVar 0) (oV (vC (.int 2))))) (oV (vC (.int 48271))))) (oV (vC (.int 11))))) aNil))) (oV (vC (.int 2147483647)))))) (sRet (fBin bMod (oV (vBi biInt (aCons (oV (fBin bFdiv (oV (fBin bIx (oVar 0) (oV (vC (.int 2))))) (oV (vC (.int 7))))) aNil))) (oVar 1)))) sPass) (sSeq (sSet 3 (fBin bIx (oV (fBin bIx (oVar 0) (oV (vC (.int 0))))) (oV (fBin bSub (oV (fBin bIx (oVar 0) (oV (vC (.int 1))))) (oV (vC (.int 1))))))) (sSeq (sSetIx 0 (oV (vC (.int 2))) (oV (fBin bMod (oV (vBi biInt (aCons (oV (fBin bAdd (oV (fBin bAdd (oV (fBin bMul (oV (fBin bIx (oVar 0) (oV (vC (.int 2))))) (oV (vC (.int 48271))))) (oVar 3))) (oV (vC (.int 11))))) aNil))) (oV (vC (.int 2147483647)))))) (sSeq (sIf (tB (fBin bGe (oVar 3) (oV (fBin bPow (oV (vC (.int 10))) (oV (vC (.int 18))))))) (sSetIx 0 (oV (vC (.int 3))) (oV (fBin bFdiv (oVar 3) (oVar 1)))) sPass) (sRet (fBin bMod (oV (vBi biInt (aCons (oVar 3) aNil))) (oVar 1)))))))))
def F__law_taken (c : Call) : Fn := ⟨true, 2, 4, G__law_taken c⟩
abbrev G__law_pick (c : Call) : Es := (sRet (fBin bIx (oVar 1) (oV (vCallR (c "_law_taken") 0 (aCons (oV (vBi biLen (aCons (oVar 1) aNil))) aNil)))))
def F__law_pick (c : Call) : Fn := ⟨true, 2, 2, G__law_pick c⟩
abbrev G__law_prime (c : Call) : Es := (sRet (vCallR (c "_law_pick") 0 (aCons (oV (vLst (aCons (oV (vC (.int 2))) (aCons (oV (vC (.int 2))) (aCons (oV (vC (.int 3))) (aCons (oV (vC (.int 5))) (aCons (oV (vC (.int 7))) aNil))))))) aNil)))
def F__law_prime (c : Call) : Fn := ⟨true, 1, 1, G__law_prime c⟩
abbrev W__law_taps_1 (c : Call) : Ev := (vCallR (c "_law_taken") 0 (aCons (oVar 1) aNil))
abbrev W__law_taps_2 (c : Call) : Ev := (vCallR (c "_law_taken") 0 (aCons (oVar 1) aNil))
abbrev G__law_taps (c : Call) : Es := (sSeq (sSet 3 (vCallR (c "_law_taken") 0 (aCons (oV (fBin bAdd (oVar 2) (oV (vC (.int 1))))) aNil))) (sSeq (sSet 4 (vBi biTuple (aCons (oV (vLc [5] (iRange1 (oVar 3)) (.nm 5) tYes (W__law_taps_1 c))) aNil))) (sRet (vTup (aCons (oVar 4) (aCons (oV (vBi biTuple (aCons (oV (vLc [5] (iRange1 (oVar 3)) (.nm 5) tYes (W__law_taps_2 c))) aNil))) aNil))))))
def F__law_taps (c : Call) : Fn := ⟨true, 3, 6, G__law_taps c⟩
abbrev W__law_alike_1 (c : Call) : Ev := (vVar 2)
abbrev W__law_alike_2 (c : Call) : Et := (tNot (tV (oV (vCall (c "_law_alike") (aCons (oV (fBin bIx (oVar 0) (oVar 2))) (aCons (oV (fBin bIx (oVar 1) (oVar 2))) aNil))))))
abbrev G__law_alike (c : Call) : Es := (sSeq (sIf (tV (oV (fUn (uIs [.tuple, .list]) (oVar 1)))) (sSeq (sIf (tOr (tNot (tV (oV (fUn (uIs [.tuple, .list]) (oVar 0))))) (tB (fBin bNe (oV (fUn (uIs [.list]) (oVar 0))) (oV (fUn (uIs [.list]) (oVar 1)))))) (sRet (vC (.bool false))) sPass) (sSeq (sIf (tB (fBin bNe (oV (vBi biLen (aCons (oVar 0) aNil))) (oV (vBi biLen (aCons (oVar 1) aNil))))) (sRet (vC (.bool false))) sPass) (sRet (fBin bEq (oV (vLc [2] (iRange1 (oV (vBi biLen (aCons (oVar 1) aNil)))) (.nm 2) (W__law_alike_2 c) (W__law_alike_1 c))) (oV (vLst aNil)))))) sPass) (sSeq (sIf (tOr (tB (fUn uIsN (oVar 1))) (tV (oV (fUn (uIs [.str]) (oVar 1))))) (sRet (vAnd (fBin bEq (oVar 0) (oVar 1)) (fBin bEq (oV (fUn (uIs [.str]) (oVar 0))) (oV (fUn (uIs [.str]) (oVar 1)))))) sPass) (sRet (vAnd (fUn (uIs [.int]) (oVar 0)) (vAnd (fBin bEq (oV (fUn (uIs [.bool]) (oVar 0))) (oV (fUn (uIs [.bool]) (oVar 1)))) (fBin bEq (oVar 0) (oVar 1)))))))
def F__law_alike (c : Call) : Fn := ⟨false, 2, 3, G__law_alike c⟩
abbrev W__law_carried_1 (c : Call) : Ev := (fBin bMul (oV (fBin bIx (oVar 1) (oVar 8))) (oV (fBin bIx (oVar 5) (oV (fBin bSub (oV (fBin bSub (oVar 6) (oV (vC (.int 1))))) (oVar 8))))))
abbrev W__law_carried_2 (c : Call) : Es := (sSeq (sSet 7 (fBin bAdd (oVar 3) (oV (vBi biSum2 (aCons (oV (vLc [8] (iRange1 (oV (vBi biLen (aCons (oVar 1) aNil)))) (.nm 8) tYes (W__law_carried_1 c))) aNil))))) (sSeq (sApp 5 (fBin bMod (oV (vBi biInt (aCons (oVar 7) aNil))) (oVar 0))) (sSet 3 (fBin bFdiv (oVar 7) (oVar 0)))))
abbrev G__law_carried (c : Call) : Es := (sSeq (sSet 5 (vBi biList (aCons (oVar 2) aNil))) (sSeq (sFor (iRange2 (oV (vBi biLen (aCons (oVar 1) aNil))) (oVar 4)) (.nm 6) (W__law_carried_2 c)) (sRet (vBi biTuple (aCons (oV (fSl (oVar 5) pNo (pSo (oVar 4)))) aNil)))))
def F__law_carried (c : Call) : Fn := ⟨false, 5, 9, G__law_carried c⟩
abbrev W__law_worth_1 (c : Call) : Es := (sSet 2 (fBin bAdd (oV (fBin bMul (oVar 2) (oVar 0))) (oVar 3)))
abbrev G__law_worth (c : Call) : Es := (sSeq (sSet 2 (vC (.int 0))) (sSeq (sFor (iE (oV (fUn uRev (oVar 1)))) (.nm 3) (W__law_worth_1 c)) (sRet (vVar 2))))
def F__law_worth (c : Call) : Fn := ⟨false, 2, 4, G__law_worth c⟩
abbrev W__law_shared_1 (c : Call) : Es := (sSeq (sIf (tB (fBin bEq (oVar 1) (oV (vC (.int 0))))) (sRet (vVar 0)) sPass) (sPar [0, 1] [(vVar 1), (fBin bMod (oV (vBi biInt (aCons (oVar 0) aNil))) (oVar 1))]))
abbrev G__law_shared (c : Call) : Es := (sSeq (sPar [0, 1] [(vBi biAbs (aCons (oVar 0) aNil)), (vBi biAbs (aCons (oVar 1) aNil))]) (sSeq (sFor (iRange1 (oV (vC (.int 1500)))) (.nm 2) (W__law_shared_1 c)) (sRet (vVar 0))))
def F__law_shared (c : Call) : Fn := ⟨false, 2, 3, G__law_shared c⟩
abbrev G__law_lowest_of (c : Call) : Es := (sSeq (sSet 2 (vIte (tB (fBin bGt (oVar 1) (oV (vC (.int 0))))) (vCall (c "_law_shared") (aCons (oVar 0) (aCons (oVar 1) aNil))) (fBin bSub (oV (vC (.int 0))) (oV (vCall (c "_law_shared") (aCons (oVar 0) (aCons (oVar 1) aNil))))))) (sRet (vTup (aCons (oV (fBin bFdiv (oVar 0) (oVar 2))) (aCons (oV (fBin bFdiv (oVar 1) (oVar 2))) aNil)))))
def F__law_lowest_of (c : Call) : Fn := ⟨false, 2, 3, G__law_lowest_of c⟩
abbrev W__law_whole_power_1 (c : Call) : Es := (sSet 2 (fBin bMul (oVar 2) (oVar 0)))
abbrev G__law_whole_power (c : Call) : Es := (sSeq (sSet 2 (vC (.int 1))) (sSeq (sFor (iRange1 (oVar 1)) (.nm 3) (W__law_whole_power_1 c)) (sRet (vVar 2))))
def F__law_whole_power (c : Call) : Fn := ⟨false, 2, 4, G__law_whole_power c⟩
abbrev G_law (c : Call) : Es := (sSeq (sSet 1 (vLst (aCons (oVar 0) (aCons (oV (vC (.int 0))) (aCons (oV (vC (.int 5067))) (aCons (oV (vC (.int 0))) aNil)))))) (sSeq (sSet 2 (vCallR (c "_law_prime") 1 aNil)) (sSeq (sUnp [3, 4] (vCallR (c "_law_taps") 1 (aCons (oVar 2) (aCons (oV (fBin bIx (oV (vLst (aCons (oV (vC (.int 3))) (aCons (oV (vC (.int 6))) (aCons (oV (vC (.int 30))) aNil))))) (oV (vCallR (c "_law_taken") 1 (aCons (oV (vC (.int 3))) aNil))))) aNil)))) (sSeq (sSet 5 (fBin bMul (oV (vCallR (c "_law_taken") 1 (aCons (oV (fBin bIx (oV (vLst (aCons (oV (vC (.int 8))) (aCons (oV (vC (.int 1000))) (aCons (oV (fBin bPow (oV (vC (.int 10))) (oV (vC (.int 30))))) aNil))))) (oV (vCallR (c "_law_taken") 1 (aCons (oV (vC (.int 3))) aNil))))) aNil))) (oV (vCallR (c "_law_pick") 1 (aCons (oV (vLst (aCons (oV (vC (.int 1))) (aCons (oV (fBin bSub (oV (vC (.int 0))) (oV (vC (.int 1))))) aNil)))) aNil))))) (sSeq (sSet 6 (vCallR (c "_law_taken") 1 (aCons (oV (fBin bIx (oV (vLst (aCons (oV (vC (.int 20))) (aCons (oV (vC (.int 120))) (aCons (oV (vC (.int 401))) aNil))))) (oV (vCallR (c "_law_taken") 1 (aCons (oV (vC (.int 3))) aNil))))) aNil))) (sSeq (sSet 7 (vCall (c "carry_run") (aCons (oVar 2) (aCons (oVar 3) (aCons (oVar 4) (aCons (oVar 5) (aCons (oVar 6) aNil))))))) (sSeq (sIf (tNot (tV (oV (vCall (c "_law_alike") (aCons (oVar 7) (aCons (oV (vCall (c "_law_carried") (aCons (oVar 2) (aCons (oVar 3) (aCons (oVar 4) (aCons (oVar 5) (aCons (oVar 6) aNil))))))) aNil)))))) (sRet (vC (.bool false))) sPass) (sSeq (sSet 8 (vCall (c "carry_fraction") (aCons (oVar 2) (aCons (oVar 3) (aCons (oVar 4) (aCons (oVar 5) aNil)))))) (sSeq (sSet 9 (fBin bSub (oV (vCall (c "_law_worth") (aCons (oVar 2) (aCons (oV (fBin bAdd (oV (vTup (aCons (oV (vC (.int 0))) aNil))) (oVar 3))) aNil)))) (oV (vC (.int 1))))) (sSeq (sIf (tOr (tNot (tV (oV (fUn (uIs [.tuple]) (oVar 8))))) (tOr (tB (fBin bNe (oV (vBi biLen (aCons (oVar 8) aNil))) (oV (vC (.int 2))))) (tNot (tV (oV (vCall (c "_law_alike") (aCons (oVar 8) (aCons (oV (vCall (c "_law_lowest_of") (aCons (oV (fBin bIx (oVar 8) (oV (vC (.int 0))))) (aCons (oV (fBin bIx (oVar 8) (oV (vC (.int 1))))) aNil)))) aNil)))))))) (sRet (vC (.bool false))) sPass) (sSeq (sIf (tOr (tB (fBin bNe (oV (fBin bMod (oV (vBi biInt (aCons (oVar 9) aNil))) (oV (fBin bIx (oVar 8) (oV (vC (.int 1))))))) (oV (vC (.int 0))))) (tOr (tB (fBin bGt (oV (vBi biAbs (aCons (oV (fBin bIx (oVar 8) (oV (vC (.int 0))))) aNil))) (oV (fBin bPow (oV (vC (.int 10))) (oV (vC (.int 60))))))) (tB (fBin bGt (oV (fBin bIx (oVar 8) (oV (vC (.int 1))))) (oV (fBin bPow (oV (vC (.int 10))) (oV (vC (.int 60))))))))) (sRet (fBin bEq (oV (fBin bMod (oV (vBi biInt (aCons (oVar 9) aNil))) (oV (fBin bIx (oVar 8) (oV (vC (.int 1))))))) (oV (vC (.int 0))))) sPass) (sSeq (sIf (tB (fBin bNe (oV (vCall (c "fraction_row") (aCons (oVar 2) (aCons (oVar 8) (aCons (oVar 6) aNil))))) (oVar 7))) (sRet (vC (.bool false))) sPass) (sSeq (sSet 10 (fBin bAdd (oV (vBi biLen (aCons (oVar 3) aNil))) (oV (vC (.int 40))))) (sSeq (sSet 11 (vCall (c "_law_carried") (aCons (oVar 2) (aCons (oVar 3) (aCons (oVar 4) (aCons (oVar 5) (aCons (oVar 10) aNil))))))) (sRet (fBin bEq (oV (fBin bMod (oV (vBi biInt (aCons (oV (fBin bSub (oV (fBin bMul (oV (fBin bIx (oVar 8) (oV (vC (.int 1))))) (oV (vCall (c "_law_worth") (aCons (oVar 2) (aCons (oVar 11) aNil)))))) (oV (fBin bIx (oVar 8) (oV (vC (.int 0))))))) aNil))) (oV (vCall (c "_law_whole_power") (aCons (oVar 2) (aCons (oVar 10) aNil)))))) (oV (vC (.int 0)))))))))))))))))))
def F_law (c : Call) : Fn := ⟨false, 1, 12, G_law c⟩
def tbl (c : Call) (f : String) : Option Fn :=
  if f = "power_of" then some (F_power_of c)
  else if f = "inverse" then some (F_inverse c)
  else if f = "is_between" then some (F_is_between c)
  else if f = "are_numbers" then some (F_are_numbers c)
  else if f = "check_prime" then some (F_check_prime c)
  else if f = "check_number" then some (F_check_number c)
  else if f = "check_taps" then some (F_check_taps c)
  else if f = "are_so_many" then some (F_are_so_many c)
  else if f = "check_start" then some (F_check_start c)
  else if f = "check_wired" then some (F_check_wired c)
  else if f = "check_fraction" then some (F_check_fraction c)
  else if f = "value_of" then some (F_value_of c)
  else if f = "figures_of" then some (F_figures_of c)
  else if f = "rest_above" then some (F_rest_above c)
  else if f = "lowest" then some (F_lowest c)
  else if f = "_first_figure" then some (F__first_figure c)
  else if f = "carry_run" then some (F_carry_run c)
  else if f = "carry_fraction" then some (F_carry_fraction c)
  else if f = "_told_by" then some (F__told_by c)
  else if f = "fraction_row" then some (F_fraction_row c)
  else if f = "_law_taken" then some (F__law_taken c)
  else if f = "_law_pick" then some (F__law_pick c)
  else if f = "_law_prime" then some (F__law_prime c)
  else if f = "_law_taps" then some (F__law_taps c)
  else if f = "_law_alike" then some (F__law_alike c)
  else if f = "_law_carried" then some (F__law_carried c)
  else if f = "_law_worth" then some (F__law_worth c)
  else if f = "_law_shared" then some (F__law_shared c)
  else if f = "_law_lowest_of" then some (F__law_lowest_of c)
  else if f = "_law_whole_power" then some (F__law_whole_power c)
  else if f = "law" then some (F_law c)
  else none
def run : Nat → Call
  | 0 => fun _ _ _ => none
  | n + 1 => fun f r ds => match tbl (run n) f with
    | some F => F.run r ds
    | none => none
theorem run_power_of (n : Nat) : run (n + 1) "power_of" = (F_power_of (run n)).run := by
  funext r ds
  simp [run, tbl]
theorem go_power_of (n : Nat) (x0 : D) (x1 : D) {o : Out} {δ : Env} {r : Res} (h : G_power_of (run n) [.dat x0, .dat x1, .un, .un] = some (o, δ)) (ho : EV.outR o = some r) : run (n + 1) "power_of" none [x0, x1] = some (r, none) := by
  rw [run_power_of]
  exact EV.fn_v rfl rfl rfl h ho
theorem run_inverse (n : Nat) : run (n + 1) "inverse" = (F_inverse (run n)).run := by
  funext r ds
  simp [run, tbl]
theorem go_inverse (n : Nat) (x0 : D) (x1 : D) {o : Out} {δ : Env} {r : Res} (h : G_inverse (run n) [.dat x0, .dat x1, .un] = some (o, δ)) (ho : EV.outR o = some r) : run (n + 1) "inverse" none [x0, x1] = some (r, none) := by
  rw [run_inverse]
  exact EV.fn_v rfl rfl rfl h ho
theorem run_is_between (n : Nat) : run (n + 1) "is_between" = (F_is_between (run n)).run := by
  funext r ds
  simp [run, tbl]
theorem go_is_between (n : Nat) (x0 : D) (x1 : D) (x2 : D) {o : Out} {δ : Env} {r : Res} (h : G_is_between (run n) [.dat x0, .dat x1, .dat x2] = some (o, δ)) (ho : EV.outR o = some r) : run (n + 1) "is_between" none [x0, x1, x2] = some (r, none) := by
  rw [run_is_between]
  exact EV.fn_v rfl rfl rfl h ho
theorem run_are_numbers (n : Nat) : run (n + 1) "are_numbers" = (F_are_numbers (run n)).run := by
  funext r ds
  simp [run, tbl]
theorem go_are_numbers (n : Nat) (x0 : D) (x1 : D) (x2 : D) {o : Out} {δ : Env} {r : Res} (h : G_are_numbers (run n) [.dat x0, .dat x1, .dat x2, .un] = some (o, δ)) (ho : EV.outR o = some r) : run (n + 1) "are_numbers" none [x0, x1, x2] = some (r, none) := by
  rw [run_are_numbers]
  exact EV.fn_v rfl rfl rfl h ho
theorem run_check_prime (n : Nat) : run (n + 1) "check_prime" = (F_check_prime (run n)).run := by
  funext r ds
  simp [run, tbl]
theorem go_check_prime (n : Nat) (x0 : D) {o : Out} {δ : Env} {r : Res} (h : G_check_prime (run n) [.dat x0] = some (o, δ)) (ho : EV.outR o = some r) : run (n + 1) "check_prime" none [x0] = some (r, none) := by
  rw [run_check_prime]
  exact EV.fn_v rfl rfl rfl h ho
theorem run_check_number (n : Nat) : run (n + 1) "check_number" = (F_check_number (run n)).run := by
  funext r ds
  simp [run, tbl]
theorem go_check_number (n : Nat) (x0 : D) (x1 : D) (x2 : D) {o : Out} {δ : Env} {r : Res} (h : G_check_number (run n) [.dat x0, .dat x1, .dat x2] = some (o, δ)) (ho : EV.outR o = some r) : run (n + 1) "check_number" none [x0, x1, x2] = some (r, none) := by
  rw [run_check_number]
  exact EV.fn_v rfl rfl rfl h ho
theorem run_check_taps (n : Nat) : run (n + 1) "check_taps" = (F_check_taps (run n)).run := by
  funext r ds
  simp [run, tbl]
theorem go_check_taps (n : Nat) (x0 : D) (x1 : D) {o : Out} {δ : Env} {r : Res} (h : G_check_taps (run n) [.dat x0, .dat x1] = some (o, δ)) (ho : EV.outR o = some r) : run (n + 1) "check_taps" none [x0, x1] = some (r, none) := by
  rw [run_check_taps]
  exact EV.fn_v rfl rfl rfl h ho
theorem run_are_so_many (n : Nat) : run (n + 1) "are_so_many" = (F_are_so_many (run n)).run := by
  funext r ds
  simp [run, tbl]
theorem go_are_so_many (n : Nat) (x0 : D) (x1 : D) (x2 : D) {o : Out} {δ : Env} {r : Res} (h : G_are_so_many (run n) [.dat x0, .dat x1, .dat x2] = some (o, δ)) (ho : EV.outR o = some r) : run (n + 1) "are_so_many" none [x0, x1, x2] = some (r, none) := by
  rw [run_are_so_many]
  exact EV.fn_v rfl rfl rfl h ho
theorem run_check_start (n : Nat) : run (n + 1) "check_start" = (F_check_start (run n)).run := by
  funext r ds
  simp [run, tbl]
theorem go_check_start (n : Nat) (x0 : D) (x1 : D) (x2 : D) {o : Out} {δ : Env} {r : Res} (h : G_check_start (run n) [.dat x0, .dat x1, .dat x2] = some (o, δ)) (ho : EV.outR o = some r) : run (n + 1) "check_start" none [x0, x1, x2] = some (r, none) := by
  rw [run_check_start]
  exact EV.fn_v rfl rfl rfl h ho
theorem run_check_wired (n : Nat) : run (n + 1) "check_wired" = (F_check_wired (run n)).run := by
  funext r ds
  simp [run, tbl]
theorem go_check_wired (n : Nat) (x0 : D) (x1 : D) (x2 : D) {o : Out} {δ : Env} {r : Res} (h : G_check_wired (run n) [.dat x0, .dat x1, .dat x2] = some (o, δ)) (ho : EV.outR o = some r) : run (n + 1) "check_wired" none [x0, x1, x2] = some (r, none) := by
  rw [run_check_wired]
  exact EV.fn_v rfl rfl rfl h ho
theorem run_check_fraction (n : Nat) : run (n + 1) "check_fraction" = (F_check_fraction (run n)).run := by
  funext r ds
  simp [run, tbl]
theorem go_check_fraction (n : Nat) (x0 : D) (x1 : D) {o : Out} {δ : Env} {r : Res} (h : G_check_fraction (run n) [.dat x0, .dat x1, .un, .un] = some (o, δ)) (ho : EV.outR o = some r) : run (n + 1) "check_fraction" none [x0, x1] = some (r, none) := by
  rw [run_check_fraction]
  exact EV.fn_v rfl rfl rfl h ho
theorem run_value_of (n : Nat) : run (n + 1) "value_of" = (F_value_of (run n)).run := by
  funext r ds
  simp [run, tbl]
theorem go_value_of (n : Nat) (x0 : D) (x1 : D) {o : Out} {δ : Env} {r : Res} (h : G_value_of (run n) [.dat x0, .dat x1, .un, .un] = some (o, δ)) (ho : EV.outR o = some r) : run (n + 1) "value_of" none [x0, x1] = some (r, none) := by
  rw [run_value_of]
  exact EV.fn_v rfl rfl rfl h ho
theorem run_figures_of (n : Nat) : run (n + 1) "figures_of" = (F_figures_of (run n)).run := by
  funext r ds
  simp [run, tbl]
theorem go_figures_of (n : Nat) (x0 : D) (x1 : D) (x2 : D) (x3 : D) {o : Out} {δ : Env} {r : Res} (h : G_figures_of (run n) [.dat x0, .dat x1, .dat x2, .dat x3, .un, .un] = some (o, δ)) (ho : EV.outR o = some r) : run (n + 1) "figures_of" none [x0, x1, x2, x3] = some (r, none) := by
  rw [run_figures_of]
  exact EV.fn_v rfl rfl rfl h ho
theorem run_rest_above (n : Nat) : run (n + 1) "rest_above" = (F_rest_above (run n)).run := by
  funext r ds
  simp [run, tbl]
theorem go_rest_above (n : Nat) (x0 : D) (x1 : D) (x2 : D) {o : Out} {δ : Env} {r : Res} (h : G_rest_above (run n) [.dat x0, .dat x1, .dat x2] = some (o, δ)) (ho : EV.outR o = some r) : run (n + 1) "rest_above" none [x0, x1, x2] = some (r, none) := by
  rw [run_rest_above]
  exact EV.fn_v rfl rfl rfl h ho
theorem run_lowest (n : Nat) : run (n + 1) "lowest" = (F_lowest (run n)).run := by
  funext r ds
  simp [run, tbl]
theorem go_lowest (n : Nat) (x0 : D) (x1 : D) {o : Out} {δ : Env} {r : Res} (h : G_lowest (run n) [.dat x0, .dat x1, .un] = some (o, δ)) (ho : EV.outR o = some r) : run (n + 1) "lowest" none [x0, x1] = some (r, none) := by
  rw [run_lowest]
  exact EV.fn_v rfl rfl rfl h ho
theorem run__first_figure (n : Nat) : run (n + 1) "_first_figure" = (F__first_figure (run n)).run := by
  funext r ds
  simp [run, tbl]
theorem go__first_figure (n : Nat) (x0 : D) (x1 : D) (x2 : D) {o : Out} {δ : Env} {r : Res} (h : G__first_figure (run n) [.dat x0, .dat x1, .dat x2] = some (o, δ)) (ho : EV.outR o = some r) : run (n + 1) "_first_figure" none [x0, x1, x2] = some (r, none) := by
  rw [run__first_figure]
  exact EV.fn_v rfl rfl rfl h ho
theorem run_carry_run (n : Nat) : run (n + 1) "carry_run" = (F_carry_run (run n)).run := by
  funext r ds
  simp [run, tbl]
theorem go_carry_run (n : Nat) (x0 : D) (x1 : D) (x2 : D) (x3 : D) (x4 : D) {o : Out} {δ : Env} {r : Res} (h : G_carry_run (run n) [.dat x0, .dat x1, .dat x2, .dat x3, .dat x4, .un, .un, .un, .un] = some (o, δ)) (ho : EV.outR o = some r) : run (n + 1) "carry_run" none [x0, x1, x2, x3, x4] = some (r, none) := by
  rw [run_carry_run]
  exact EV.fn_v rfl rfl rfl h ho
theorem run_carry_fraction (n : Nat) : run (n + 1) "carry_fraction" = (F_carry_fraction (run n)).run := by
  funext r ds
  simp [run, tbl]
theorem go_carry_fraction (n : Nat) (x0 : D) (x1 : D) (x2 : D) (x3 : D) {o : Out} {δ : Env} {r : Res} (h : G_carry_fraction (run n) [.dat x0, .dat x1, .dat x2, .dat x3, .un, .un] = some (o, δ)) (ho : EV.outR o = some r) : run (n + 1) "carry_fraction" none [x0, x1, x2, x3] = some (r, none) := by
  rw [run_carry_fraction]
  exact EV.fn_v rfl rfl rfl h ho
theorem run__told_by (n : Nat) : run (n + 1) "_told_by" = (F__told_by (run n)).run := by
  funext r ds
  simp [run, tbl]
theorem go__told_by (n : Nat) (x0 : D) (x1 : D) (x2 : D) {o : Out} {δ : Env} {r : Res} (h : G__told_by (run n) [.dat x0, .dat x1, .dat x2, .un, .un, .un] = some (o, δ)) (ho : EV.outR o = some r) : run (n + 1) "_told_by" none [x0, x1, x2] = some (r, none) := by
  rw [run__told_by]
  exact EV.fn_v rfl rfl rfl h ho
theorem run_fraction_row (n : Nat) : run (n + 1) "fraction_row" = (F_fraction_row (run n)).run := by
  funext r ds
  simp [run, tbl]
theorem go_fraction_row (n : Nat) (x0 : D) (x1 : D) (x2 : D) {o : Out} {δ : Env} {r : Res} (h : G_fraction_row (run n) [.dat x0, .dat x1, .dat x2, .un, .un] = some (o, δ)) (ho : EV.outR o = some r) : run (n + 1) "fraction_row" none [x0, x1, x2] = some (r, none) := by
  rw [run_fraction_row]
  exact EV.fn_v rfl rfl rfl h ho
theorem run__law_taken (n : Nat) : run (n + 1) "_law_taken" = (F__law_taken (run n)).run := by
  funext r ds
  simp [run, tbl]
theorem go__law_taken (n : Nat) (xs : List D) (x1 : D) {o : Out} {δ : Env} {r : Res} {ys : List D} (h : G__law_taken (run n) [.prm xs, .dat x1, .un, .un] = some (o, δ)) (ho : EV.outR o = some r) (h0 : δ[0]? = some (.prm ys)) : run (n + 1) "_law_taken" (some xs) [x1] = some (r, some ys) := by
  rw [run__law_taken]
  exact EV.fn_r rfl rfl rfl h ho h0
theorem run__law_pick (n : Nat) : run (n + 1) "_law_pick" = (F__law_pick (run n)).run := by
  funext r ds
  simp [run, tbl]
theorem go__law_pick (n : Nat) (xs : List D) (x1 : D) {o : Out} {δ : Env} {r : Res} {ys : List D} (h : G__law_pick (run n) [.prm xs, .dat x1] = some (o, δ)) (ho : EV.outR o = some r) (h0 : δ[0]? = some (.prm ys)) : run (n + 1) "_law_pick" (some xs) [x1] = some (r, some ys) := by
  rw [run__law_pick]
  exact EV.fn_r rfl rfl rfl h ho h0
theorem run__law_prime (n : Nat) : run (n + 1) "_law_prime" = (F__law_prime (run n)).run := by
  funext r ds
  simp [run, tbl]
theorem go__law_prime (n : Nat) (xs : List D) {o : Out} {δ : Env} {r : Res} {ys : List D} (h : G__law_prime (run n) [.prm xs] = some (o, δ)) (ho : EV.outR o = some r) (h0 : δ[0]? = some (.prm ys)) : run (n + 1) "_law_prime" (some xs) [] = some (r, some ys) := by
  rw [run__law_prime]
  exact EV.fn_r rfl rfl rfl h ho h0
theorem run__law_taps (n : Nat) : run (n + 1) "_law_taps" = (F__law_taps (run n)).run := by
  funext r ds
  simp [run, tbl]
theorem go__law_taps (n : Nat) (xs : List D) (x1 : D) (x2 : D) {o : Out} {δ : Env} {r : Res} {ys : List D} (h : G__law_taps (run n) [.prm xs, .dat x1, .dat x2, .un, .un, .un] = some (o, δ)) (ho : EV.outR o = some r) (h0 : δ[0]? = some (.prm ys)) : run (n + 1) "_law_taps" (some xs) [x1, x2] = some (r, some ys) := by
  rw [run__law_taps]
  exact EV.fn_r rfl rfl rfl h ho h0
theorem run__law_alike (n : Nat) : run (n + 1) "_law_alike" = (F__law_alike (run n)).run := by
  funext r ds
  simp [run, tbl]
theorem go__law_alike (n : Nat) (x0 : D) (x1 : D) {o : Out} {δ : Env} {r : Res} (h : G__law_alike (run n) [.dat x0, .dat x1, .un] = some (o, δ)) (ho : EV.outR o = some r) : run (n + 1) "_law_alike" none [x0, x1] = some (r, none) := by
  rw [run__law_alike]
  exact EV.fn_v rfl rfl rfl h ho
theorem run__law_carried (n : Nat) : run (n + 1) "_law_carried" = (F__law_carried (run n)).run := by
  funext r ds
  simp [run, tbl]
theorem go__law_carried (n : Nat) (x0 : D) (x1 : D) (x2 : D) (x3 : D) (x4 : D) {o : Out} {δ : Env} {r : Res} (h : G__law_carried (run n) [.dat x0, .dat x1, .dat x2, .dat x3, .dat x4, .un, .un, .un, .un] = some (o, δ)) (ho : EV.outR o = some r) : run (n + 1) "_law_carried" none [x0, x1, x2, x3, x4] = some (r, none) := by
  rw [run__law_carried]
  exact EV.fn_v rfl rfl rfl h ho
theorem run__law_worth (n : Nat) : run (n + 1) "_law_worth" = (F__law_worth (run n)).run := by
  funext r ds
  simp [run, tbl]
theorem go__law_worth (n : Nat) (x0 : D) (x1 : D) {o : Out} {δ : Env} {r : Res} (h : G__law_worth (run n) [.dat x0, .dat x1, .un, .un] = some (o, δ)) (ho : EV.outR o = some r) : run (n + 1) "_law_worth" none [x0, x1] = some (r, none) := by
  rw [run__law_worth]
  exact EV.fn_v rfl rfl rfl h ho
theorem run__law_shared (n : Nat) : run (n + 1) "_law_shared" = (F__law_shared (run n)).run := by
  funext r ds
  simp [run, tbl]
theorem go__law_shared (n : Nat) (x0 : D) (x1 : D) {o : Out} {δ : Env} {r : Res} (h : G__law_shared (run n) [.dat x0, .dat x1, .un] = some (o, δ)) (ho : EV.outR o = some r) : run (n + 1) "_law_shared" none [x0, x1] = some (r, none) := by
  rw [run__law_shared]
  exact EV.fn_v rfl rfl rfl h ho
theorem run__law_lowest_of (n : Nat) : run (n + 1) "_law_lowest_of" = (F__law_lowest_of (run n)).run := by
  funext r ds
  simp [run, tbl]
theorem go__law_lowest_of (n : Nat) (x0 : D) (x1 : D) {o : Out} {δ : Env} {r : Res} (h : G__law_lowest_of (run n) [.dat x0, .dat x1, .un] = some (o, δ)) (ho : EV.outR o = some r) : run (n + 1) "_law_lowest_of" none [x0, x1] = some (r, none) := by
  rw [run__law_lowest_of]
  exact EV.fn_v rfl rfl rfl h ho
theorem run__law_whole_power (n : Nat) : run (n + 1) "_law_whole_power" = (F__law_whole_power (run n)).run := by
  funext r ds
  simp [run, tbl]
theorem go__law_whole_power (n : Nat) (x0 : D) (x1 : D) {o : Out} {δ : Env} {r : Res} (h : G__law_whole_power (run n) [.dat x0, .dat x1, .un, .un] = some (o, δ)) (ho : EV.outR o = some r) : run (n + 1) "_law_whole_power" none [x0, x1] = some (r, none) := by
  rw [run__law_whole_power]
  exact EV.fn_v rfl rfl rfl h ho
theorem run_law (n : Nat) : run (n + 1) "law" = (F_law (run n)).run := by
  funext r ds
  simp [run, tbl]
theorem go_law (n : Nat) (x0 : D) {o : Out} {δ : Env} {r : Res} (h : G_law (run n) [.dat x0, .un, .un, .un, .un, .un, .un, .un, .un, .un, .un, .un] = some (o, δ)) (ho : EV.outR o = some r) : run (n + 1) "law" none [x0] = some (r, none) := by
  rw [run_law]
  exact EV.fn_v rfl rfl rfl h ho
end IPL
end
section
set_option Elab.async false
set_option linter.all false
set_option maxRecDepth 100000
set_option maxHeartbeats 1000000
namespace IPL
open PySem PySem.Spec PyProof.Rows L2 IP
def topS (i : Nat) : Stmt := PySem.Challenge.pw_taprows_k67_whole_registers_with_carry.main.body.getD i (.Pass ⟨0, 0, 0, 0⟩)
theorem b_abs : bootBuiltins "abs" = some (.builtin "abs") := by decide +kernel
theorem b_all : bootBuiltins "all" = some (.builtin "all") := by decide +kernel
theorem b_bool : bootBuiltins "bool" = some (.type "bool") := by decide +kernel
theorem b_int : bootBuiltins "int" = some (.type "int") := by decide +kernel
theorem b_isinstance : bootBuiltins "isinstance" = some (.builtin "isinstance") := by decide +kernel
theorem b_len : bootBuiltins "len" = some (.builtin "len") := by decide +kernel
theorem b_list : bootBuiltins "list" = some (.type "list") := by decide +kernel
theorem b_str : bootBuiltins "str" = some (.type "str") := by decide +kernel
theorem b_sum : bootBuiltins "sum" = some (.builtin "sum") := by decide +kernel
theorem b_tuple : bootBuiltins "tuple" = some (.type "tuple") := by decide +kernel
abbrev N_power_of : List Str := ["base", "exponent", "result", "place"]
abbrev P_power_of : List Str := ["base", "exponent"]
theorem sc_power_of : FnScope N_power_of P_power_of (defScope (topS 9)) := ⟨rfl, rfl, rfl, by decide +kernel, rfl, by decide +kernel, by decide +kernel⟩
abbrev N_inverse : List Str := ["prime", "number", "other"]
abbrev P_inverse : List Str := ["prime", "number"]
theorem sc_inverse : FnScope N_inverse P_inverse (defScope (topS 10)) := ⟨rfl, rfl, rfl, by decide +kernel, rfl, by decide +kernel, by decide +kernel⟩
abbrev N_is_between : List Str := ["value", "least", "most"]
abbrev P_is_between : List Str := ["value", "least", "most"]
theorem sc_is_between : FnScope N_is_between P_is_between (defScope (topS 16)) := ⟨rfl, rfl, rfl, by decide +kernel, rfl, by decide +kernel, by decide +kernel⟩
abbrev N_are_numbers : List Str := ["prime", "value", "most", "number"]
abbrev P_are_numbers : List Str := ["prime", "value", "most"]
theorem sc_are_numbers : FnScope N_are_numbers P_are_numbers (defScope (topS 17)) := ⟨rfl, rfl, rfl, by decide +kernel, rfl, by decide +kernel, by decide +kernel⟩
abbrev N_check_prime : List Str := ["value"]
abbrev P_check_prime : List Str := ["value"]
theorem sc_check_prime : FnScope N_check_prime P_check_prime (defScope (topS 18)) := ⟨rfl, rfl, rfl, by decide +kernel, rfl, by decide +kernel, by decide +kernel⟩
abbrev N_check_number : List Str := ["value", "least", "most"]
abbrev P_check_number : List Str := ["value", "least", "most"]
theorem sc_check_number : FnScope N_check_number P_check_number (defScope (topS 19)) := ⟨rfl, rfl, rfl, by decide +kernel, rfl, by decide +kernel, by decide +kernel⟩
abbrev N_check_taps : List Str := ["prime", "value"]
abbrev P_check_taps : List Str := ["prime", "value"]
theorem sc_check_taps : FnScope N_check_taps P_check_taps (defScope (topS 20)) := ⟨rfl, rfl, rfl, by decide +kernel, rfl, by decide +kernel, by decide +kernel⟩
abbrev N_are_so_many : List Str := ["prime", "value", "size"]
abbrev P_are_so_many : List Str := ["prime", "value", "size"]
theorem sc_are_so_many : FnScope N_are_so_many P_are_so_many (defScope (topS 21)) := ⟨rfl, rfl, rfl, by decide +kernel, rfl, by decide +kernel, by decide +kernel⟩
abbrev N_check_start : List Str := ["prime", "taps", "value"]
abbrev P_check_start : List Str := ["prime", "taps", "value"]
theorem sc_check_start : FnScope N_check_start P_check_start (defScope (topS 22)) := ⟨rfl, rfl, rfl, by decide +kernel, rfl, by decide +kernel, by decide +kernel⟩
abbrev N_check_wired : List Str := ["prime", "taps", "start"]
abbrev P_check_wired : List Str := ["prime", "taps", "start"]
theorem sc_check_wired : FnScope N_check_wired P_check_wired (defScope (topS 23)) := ⟨rfl, rfl, rfl, by decide +kernel, rfl, by decide +kernel, by decide +kernel⟩
abbrev N_check_fraction : List Str := ["prime", "value", "above", "low"]
abbrev P_check_fraction : List Str := ["prime", "value"]
theorem sc_check_fraction : FnScope N_check_fraction P_check_fraction (defScope (topS 24)) := ⟨rfl, rfl, rfl, by decide +kernel, rfl, by decide +kernel, by decide +kernel⟩
abbrev N_value_of : List Str := ["prime", "row", "value", "number"]
abbrev P_value_of : List Str := ["prime", "row"]
theorem sc_value_of : FnScope N_value_of P_value_of (defScope (topS 26)) := ⟨rfl, rfl, rfl, by decide +kernel, rfl, by decide +kernel, by decide +kernel⟩
abbrev N_figures_of : List Str := ["prime", "above", "low", "count", "row", "_"]
abbrev P_figures_of : List Str := ["prime", "above", "low", "count"]
theorem sc_figures_of : FnScope N_figures_of P_figures_of (defScope (topS 27)) := ⟨rfl, rfl, rfl, by decide +kernel, rfl, by decide +kernel, by decide +kernel⟩
abbrev N_rest_above : List Str := ["prime", "above", "low"]
abbrev P_rest_above : List Str := ["prime", "above", "low"]
theorem sc_rest_above : FnScope N_rest_above P_rest_above (defScope (topS 28)) := ⟨rfl, rfl, rfl, by decide +kernel, rfl, by decide +kernel, by decide +kernel⟩
abbrev N_lowest : List Str := ["above", "low", "common"]
abbrev P_lowest : List Str := ["above", "low"]
theorem sc_lowest : FnScope N_lowest P_lowest (defScope (topS 29)) := ⟨rfl, rfl, rfl, by decide +kernel, rfl, by decide +kernel, by decide +kernel⟩
abbrev N__first_figure : List Str := ["prime", "above", "low"]
abbrev P__first_figure : List Str := ["prime", "above", "low"]
theorem sc__first_figure : FnScope N__first_figure P__first_figure (defScope (topS 30)) := ⟨rfl, rfl, rfl, by decide +kernel, rfl, by decide +kernel, by decide +kernel⟩
abbrev N_carry_run : List Str := ["prime", "taps", "start", "carry", "count", "row", "total", "at", "tap"]
abbrev P_carry_run : List Str := ["prime", "taps", "start", "carry", "count"]
theorem sc_carry_run : FnScope N_carry_run P_carry_run (defScope (topS 33)) := ⟨rfl, rfl, rfl, by decide +kernel, rfl, by decide +kernel, by decide +kernel⟩
abbrev N_carry_fraction : List Str := ["prime", "taps", "start", "carry", "low", "above"]
abbrev P_carry_fraction : List Str := ["prime", "taps", "start", "carry"]
theorem sc_carry_fraction : FnScope N_carry_fraction P_carry_fraction (defScope (topS 34)) := ⟨rfl, rfl, rfl, by decide +kernel, rfl, by decide +kernel, by decide +kernel⟩
abbrev N__told_by : List Str := ["prime", "taps", "start", "value", "at", "tap"]
abbrev P__told_by : List Str := ["prime", "taps", "start"]
theorem sc__told_by : FnScope N__told_by P__told_by (defScope (topS 35)) := ⟨rfl, rfl, rfl, by decide +kernel, rfl, by decide +kernel, by decide +kernel⟩
abbrev N_fraction_row : List Str := ["prime", "fraction", "count", "above", "low"]
abbrev P_fraction_row : List Str := ["prime", "fraction", "count"]
theorem sc_fraction_row : FnScope N_fraction_row P_fraction_row (defScope (topS 37)) := ⟨rfl, rfl, rfl, by decide +kernel, rfl, by decide +kernel, by decide +kernel⟩
abbrev N__law_taken : List Str := ["row", "many", "found", "cell"]
abbrev P__law_taken : List Str := ["row", "many"]
theorem sc__law_taken : FnScope N__law_taken P__law_taken (defScope (topS 39)) := ⟨rfl, rfl, rfl, by decide +kernel, rfl, by decide +kernel, by decide +kernel⟩
abbrev N__law_pick : List Str := ["row", "things"]
abbrev P__law_pick : List Str := ["row", "things"]
theorem sc__law_pick : FnScope N__law_pick P__law_pick (defScope (topS 40)) := ⟨rfl, rfl, rfl, by decide +kernel, rfl, by decide +kernel, by decide +kernel⟩
abbrev N__law_prime : List Str := ["row"]
abbrev P__law_prime : List Str := ["row"]
theorem sc__law_prime : FnScope N__law_prime P__law_prime (defScope (topS 41)) := ⟨rfl, rfl, rfl, by decide +kernel, rfl, by decide +kernel, by decide +kernel⟩
abbrev N__law_taps : List Str := ["row", "prime", "most", "size", "taps", "at"]
abbrev P__law_taps : List Str := ["row", "prime", "most"]
theorem sc__law_taps : FnScope N__law_taps P__law_taps (defScope (topS 42)) := ⟨rfl, rfl, rfl, by decide +kernel, rfl, by decide +kernel, by decide +kernel⟩
abbrev N__law_alike : List Str := ["found", "due", "k"]
abbrev P__law_alike : List Str := ["found", "due"]
theorem sc__law_alike : FnScope N__law_alike P__law_alike (defScope (topS 43)) := ⟨rfl, rfl, rfl, by decide +kernel, rfl, by decide +kernel, by decide +kernel⟩
abbrev N__law_carried : List Str := ["prime", "taps", "start", "carry", "count", "found", "at", "whole", "k"]
abbrev P__law_carried : List Str := ["prime", "taps", "start", "carry", "count"]
theorem sc__law_carried : FnScope N__law_carried P__law_carried (defScope (topS 44)) := ⟨rfl, rfl, rfl, by decide +kernel, rfl, by decide +kernel, by decide +kernel⟩
abbrev N__law_worth : List Str := ["prime", "row", "found", "number"]
abbrev P__law_worth : List Str := ["prime", "row"]
theorem sc__law_worth : FnScope N__law_worth P__law_worth (defScope (topS 45)) := ⟨rfl, rfl, rfl, by decide +kernel, rfl, by decide +kernel, by decide +kernel⟩
abbrev N__law_shared : List Str := ["a", "b", "turn"]
abbrev P__law_shared : List Str := ["a", "b"]
theorem sc__law_shared : FnScope N__law_shared P__law_shared (defScope (topS 46)) := ⟨rfl, rfl, rfl, by decide +kernel, rfl, by decide +kernel, by decide +kernel⟩
abbrev N__law_lowest_of : List Str := ["above", "low", "shared"]
abbrev P__law_lowest_of : List Str := ["above", "low"]
theorem sc__law_lowest_of : FnScope N__law_lowest_of P__law_lowest_of (defScope (topS 47)) := ⟨rfl, rfl, rfl, by decide +kernel, rfl, by decide +kernel, by decide +kernel⟩
abbrev N__law_whole_power : List Str := ["prime", "exponent", "found", "turn"]
abbrev P__law_whole_power : List Str := ["prime", "exponent"]
theorem sc__law_whole_power : FnScope N__law_whole_power P__law_whole_power (defScope (topS 48)) := ⟨rfl, rfl, rfl, by decide +kernel, rfl, by decide +kernel, by decide +kernel⟩
abbrev N_law : List Str := ["script", "row", "prime", "taps", "start", "carry", "count", "found", "told", "low", "size", "whole"]
abbrev P_law : List Str := ["script"]
theorem sc_law : FnScope N_law P_law (defScope (topS 49)) := ⟨rfl, rfl, rfl, by decide +kernel, rfl, by decide +kernel, by decide +kernel⟩
structure Tx (K : PySem.W.Frag) (mg : Str → Option Value) (fd : Nat → FuncData) : Prop where
  m_abs : mg "abs" = none
  m_all : mg "all" = none
  m_bool : mg "bool" = none
  m_enumerate : mg "enumerate" = none
  m_int : mg "int" = none
  m_isinstance : mg "isinstance" = none
  m_len : mg "len" = none
  m_list : mg "list" = none
  m_range : mg "range" = none
  m_reversed : mg "reversed" = none
  m_str : mg "str" = none
  m_sum : mg "sum" = none
  m_tuple : mg "tuple" = none
  c_MOST_CARRY : ∃ t, mg "MOST_CARRY" = some (.int 10000000000000000000000000000000000000000000000000000000000000000000000 t)
  c_MOST_NUMBERS : ∃ t, mg "MOST_NUMBERS" = some (.int 400 t)
  c_MOST_PART : ∃ t, mg "MOST_PART" = some (.int 1000000000000000000000000000000000000000000000000000000000000 t)
  c_MOST_TAPS : ∃ t, mg "MOST_TAPS" = some (.int 60 t)
  g_PRIMES : mg "PRIMES" = some (.ref (He.ga K "PRIMES"))
  t_PRIMES : ∀ H, SqT K H (He.ga K "PRIMES") (([2, 3, 5, 7] : List Int).map V.int)
  m_gcd : mg "gcd" = some (.builtin "math.gcd")
  g_power_of : mg "power_of" = some (.ref (He.ga K "power_of"))
  f_power_of : FunD K "power_of" "power_of" (defArgs (topS 9)) (defBody (topS 9)) (defScope (topS 9)) [] [] (He.ga K "power_of") (fd 0)
  k_power_of : PySem.W.keepIn K (.ref (He.ga K "power_of")) = true
  b_power_of : Binds K (fd 0) P_power_of []
  g_inverse : mg "inverse" = some (.ref (He.ga K "inverse"))
  f_inverse : FunD K "inverse" "inverse" (defArgs (topS 10)) (defBody (topS 10)) (defScope (topS 10)) [] [] (He.ga K "inverse") (fd 1)
  k_inverse : PySem.W.keepIn K (.ref (He.ga K "inverse")) = true
  b_inverse : Binds K (fd 1) P_inverse []
  g_is_between : mg "is_between" = some (.ref (He.ga K "is_between"))
  f_is_between : FunD K "is_between" "is_between" (defArgs (topS 16)) (defBody (topS 16)) (defScope (topS 16)) [] [] (He.ga K "is_between") (fd 2)
  k_is_between : PySem.W.keepIn K (.ref (He.ga K "is_between")) = true
  b_is_between : Binds K (fd 2) P_is_between []
  g_are_numbers : mg "are_numbers" = some (.ref (He.ga K "are_numbers"))
  f_are_numbers : FunD K "are_numbers" "are_numbers" (defArgs (topS 17)) (defBody (topS 17)) (defScope (topS 17)) [] [] (He.ga K "are_numbers") (fd 3)
  k_are_numbers : PySem.W.keepIn K (.ref (He.ga K "are_numbers")) = true
  b_are_numbers : Binds K (fd 3) P_are_numbers []
  g_check_prime : mg "check_prime" = some (.ref (He.ga K "check_prime"))
  f_check_prime : FunD K "check_prime" "check_prime" (defArgs (topS 18)) (defBody (topS 18)) (defScope (topS 18)) [] [] (He.ga K "check_prime") (fd 4)
  k_check_prime : PySem.W.keepIn K (.ref (He.ga K "check_prime")) = true
  b_check_prime : Binds K (fd 4) P_check_prime []
  g_check_number : mg "check_number" = some (.ref (He.ga K "check_number"))
  f_check_number : FunD K "check_number" "check_number" (defArgs (topS 19)) (defBody (topS 19)) (defScope (topS 19)) [] [] (He.ga K "check_number") (fd 5)
  k_check_number : PySem.W.keepIn K (.ref (He.ga K "check_number")) = true
  b_check_number : Binds K (fd 5) P_check_number []
  g_check_taps : mg "check_taps" = some (.ref (He.ga K "check_taps"))
  f_check_taps : FunD K "check_taps" "check_taps" (defArgs (topS 20)) (defBody (topS 20)) (defScope (topS 20)) [] [] (He.ga K "check_taps") (fd 6)
  k_check_taps : PySem.W.keepIn K (.ref (He.ga K "check_taps")) = true
  b_check_taps : Binds K (fd 6) P_check_taps []
  g_are_so_many : mg "are_so_many" = some (.ref (He.ga K "are_so_many"))
  f_are_so_many : FunD K "are_so_many" "are_so_many" (defArgs (topS 21)) (defBody (topS 21)) (defScope (topS 21)) [] [] (He.ga K "are_so_many") (fd 7)
  k_are_so_many : PySem.W.keepIn K (.ref (He.ga K "are_so_many")) = true
  b_are_so_many : Binds K (fd 7) P_are_so_many []
  g_check_start : mg "check_start" = some (.ref (He.ga K "check_start"))
  f_check_start : FunD K "check_start" "check_start" (defArgs (topS 22)) (defBody (topS 22)) (defScope (topS 22)) [] [] (He.ga K "check_start") (fd 8)
  k_check_start : PySem.W.keepIn K (.ref (He.ga K "check_start")) = true
  b_check_start : Binds K (fd 8) P_check_start []
  g_check_wired : mg "check_wired" = some (.ref (He.ga K "check_wired"))
  f_check_wired : FunD K "check_wired" "check_wired" (defArgs (topS 23)) (defBody (topS 23)) (defScope (topS 23)) [] [] (He.ga K "check_wired") (fd 9)
  k_check_wired : PySem.W.keepIn K (.ref (He.ga K "check_wired")) = true
  b_check_wired : Binds K (fd 9) P_check_wired []
  g_check_fraction : mg "check_fraction" = some (.ref (He.ga K "check_fraction"))
  f_check_fraction : FunD K "check_fraction" "check_fraction" (defArgs (topS 24)) (defBody (topS 24)) (defScope (topS 24)) [] [] (He.ga K "check_fraction") (fd 10)
  k_check_fraction : PySem.W.keepIn K (.ref (He.ga K "check_fraction")) = true
  b_check_fraction : Binds K (fd 10) P_check_fraction []
  g_value_of : mg "value_of" = some (.ref (He.ga K "value_of"))
  f_value_of : FunD K "value_of" "value_of" (defArgs (topS 26)) (defBody (topS 26)) (defScope (topS 26)) [] [] (He.ga K "value_of") (fd 11)
  k_value_of : PySem.W.keepIn K (.ref (He.ga K "value_of")) = true
  b_value_of : Binds K (fd 11) P_value_of []
  g_figures_of : mg "figures_of" = some (.ref (He.ga K "figures_of"))
  f_figures_of : FunD K "figures_of" "figures_of" (defArgs (topS 27)) (defBody (topS 27)) (defScope (topS 27)) [] [] (He.ga K "figures_of") (fd 12)
  k_figures_of : PySem.W.keepIn K (.ref (He.ga K "figures_of")) = true
  b_figures_of : Binds K (fd 12) P_figures_of []
  g_rest_above : mg "rest_above" = some (.ref (He.ga K "rest_above"))
  f_rest_above : FunD K "rest_above" "rest_above" (defArgs (topS 28)) (defBody (topS 28)) (defScope (topS 28)) [] [] (He.ga K "rest_above") (fd 13)
  k_rest_above : PySem.W.keepIn K (.ref (He.ga K "rest_above")) = true
  b_rest_above : Binds K (fd 13) P_rest_above []
  g_lowest : mg "lowest" = some (.ref (He.ga K "lowest"))
  f_lowest : FunD K "lowest" "lowest" (defArgs (topS 29)) (defBody (topS 29)) (defScope (topS 29)) [] [] (He.ga K "lowest") (fd 14)
  k_lowest : PySem.W.keepIn K (.ref (He.ga K "lowest")) = true
  b_lowest : Binds K (fd 14) P_lowest []
  g__first_figure : mg "_first_figure" = some (.ref (He.ga K "_first_figure"))
  f__first_figure : FunD K "_first_figure" "_first_figure" (defArgs (topS 30)) (defBody (topS 30)) (defScope (topS 30)) [] [] (He.ga K "_first_figure") (fd 15)
  k__first_figure : PySem.W.keepIn K (.ref (He.ga K "_first_figure")) = true
  b__first_figure : Binds K (fd 15) P__first_figure []
  g_carry_run : mg "carry_run" = some (.ref (He.ga K "carry_run"))
  f_carry_run : FunD K "carry_run" "carry_run" (defArgs (topS 33)) (defBody (topS 33)) (defScope (topS 33)) [] [] (He.ga K "carry_run") (fd 16)
  k_carry_run : PySem.W.keepIn K (.ref (He.ga K "carry_run")) = true
  b_carry_run : Binds K (fd 16) P_carry_run []
  g_carry_fraction : mg "carry_fraction" = some (.ref (He.ga K "carry_fraction"))
  f_carry_fraction : FunD K "carry_fraction" "carry_fraction" (defArgs (topS 34)) (defBody (topS 34)) (defScope (topS 34)) [] [] (He.ga K "carry_fraction") (fd 17)
  k_carry_fraction : PySem.W.keepIn K (.ref (He.ga K "carry_fraction")) = true
  b_carry_fraction : Binds K (fd 17) P_carry_fraction []
  g__told_by : mg "_told_by" = some (.ref (He.ga K "_told_by"))
  f__told_by : FunD K "_told_by" "_told_by" (defArgs (topS 35)) (defBody (topS 35)) (defScope (topS 35)) [] [] (He.ga K "_told_by") (fd 18)
  k__told_by : PySem.W.keepIn K (.ref (He.ga K "_told_by")) = true
  b__told_by : Binds K (fd 18) P__told_by []
  g_fraction_row : mg "fraction_row" = some (.ref (He.ga K "fraction_row"))
  f_fraction_row : FunD K "fraction_row" "fraction_row" (defArgs (topS 37)) (defBody (topS 37)) (defScope (topS 37)) [] [] (He.ga K "fraction_row") (fd 19)
  k_fraction_row : PySem.W.keepIn K (.ref (He.ga K "fraction_row")) = true
  b_fraction_row : Binds K (fd 19) P_fraction_row []
  g__law_taken : mg "_law_taken" = some (.ref (He.ga K "_law_taken"))
  f__law_taken : FunD K "_law_taken" "_law_taken" (defArgs (topS 39)) (defBody (topS 39)) (defScope (topS 39)) [] [] (He.ga K "_law_taken") (fd 20)
  k__law_taken : PySem.W.keepIn K (.ref (He.ga K "_law_taken")) = true
  b__law_taken : Binds K (fd 20) P__law_taken []
  g__law_pick : mg "_law_pick" = some (.ref (He.ga K "_law_pick"))
  f__law_pick : FunD K "_law_pick" "_law_pick" (defArgs (topS 40)) (defBody (topS 40)) (defScope (topS 40)) [] [] (He.ga K "_law_pick") (fd 21)
  k__law_pick : PySem.W.keepIn K (.ref (He.ga K "_law_pick")) = true
  b__law_pick : Binds K (fd 21) P__law_pick []
  g__law_prime : mg "_law_prime" = some (.ref (He.ga K "_law_prime"))
  f__law_prime : FunD K "_law_prime" "_law_prime" (defArgs (topS 41)) (defBody (topS 41)) (defScope (topS 41)) [] [] (He.ga K "_law_prime") (fd 22)
  k__law_prime : PySem.W.keepIn K (.ref (He.ga K "_law_prime")) = true
  b__law_prime : Binds K (fd 22) P__law_prime []
  g__law_taps : mg "_law_taps" = some (.ref (He.ga K "_law_taps"))
  f__law_taps : FunD K "_law_taps" "_law_taps" (defArgs (topS 42)) (defBody (topS 42)) (defScope (topS 42)) [] [] (He.ga K "_law_taps") (fd 23)
  k__law_taps : PySem.W.keepIn K (.ref (He.ga K "_law_taps")) = true
  b__law_taps : Binds K (fd 23) P__law_taps []
  g__law_alike : mg "_law_alike" = some (.ref (He.ga K "_law_alike"))
  f__law_alike : FunD K "_law_alike" "_law_alike" (defArgs (topS 43)) (defBody (topS 43)) (defScope (topS 43)) [] [] (He.ga K "_law_alike") (fd 24)
  k__law_alike : PySem.W.keepIn K (.ref (He.ga K "_law_alike")) = true
  b__law_alike : Binds K (fd 24) P__law_alike []
  g__law_carried : mg "_law_carried" = some (.ref (He.ga K "_law_carried"))
  f__law_carried : FunD K "_law_carried" "_law_carried" (defArgs (topS 44)) (defBody (topS 44)) (defScope (topS 44)) [] [] (He.ga K "_law_carried") (fd 25)
  k__law_carried : PySem.W.keepIn K (.ref (He.ga K "_law_carried")) = true
  b__law_carried : Binds K (fd 25) P__law_carried []
  g__law_worth : mg "_law_worth" = some (.ref (He.ga K "_law_worth"))
  f__law_worth : FunD K "_law_worth" "_law_worth" (defArgs (topS 45)) (defBody (topS 45)) (defScope (topS 45)) [] [] (He.ga K "_law_worth") (fd 26)
  k__law_worth : PySem.W.keepIn K (.ref (He.ga K "_law_worth")) = true
  b__law_worth : Binds K (fd 26) P__law_worth []
  g__law_shared : mg "_law_shared" = some (.ref (He.ga K "_law_shared"))
  f__law_shared : FunD K "_law_shared" "_law_shared" (defArgs (topS 46)) (defBody (topS 46)) (defScope (topS 46)) [] [] (He.ga K "_law_shared") (fd 27)
  k__law_shared : PySem.W.keepIn K (.ref (He.ga K "_law_shared")) = true
  b__law_shared : Binds K (fd 27) P__law_shared []
  g__law_lowest_of : mg "_law_lowest_of" = some (.ref (He.ga K "_law_lowest_of"))
  f__law_lowest_of : FunD K "_law_lowest_of" "_law_lowest_of" (defArgs (topS 47)) (defBody (topS 47)) (defScope (topS 47)) [] [] (He.ga K "_law_lowest_of") (fd 28)
  k__law_lowest_of : PySem.W.keepIn K (.ref (He.ga K "_law_lowest_of")) = true
  b__law_lowest_of : Binds K (fd 28) P__law_lowest_of []
  g__law_whole_power : mg "_law_whole_power" = some (.ref (He.ga K "_law_whole_power"))
  f__law_whole_power : FunD K "_law_whole_power" "_law_whole_power" (defArgs (topS 48)) (defBody (topS 48)) (defScope (topS 48)) [] [] (He.ga K "_law_whole_power") (fd 29)
  k__law_whole_power : PySem.W.keepIn K (.ref (He.ga K "_law_whole_power")) = true
  b__law_whole_power : Binds K (fd 29) P__law_whole_power []
  g_law : mg "law" = some (.ref (He.ga K "law"))
  f_law : FunD K "law" "law" (defArgs (topS 49)) (defBody (topS 49)) (defScope (topS 49)) [] [] (He.ga K "law") (fd 30)
  k_law : PySem.W.keepIn K (.ref (He.ga K "law")) = true
  b_law : Binds K (fd 30) P_law []
structure Ih (P : Program) (w : World) (K : PySem.W.Frag) (mg : Str → Option Value) (base : Heap) (fd : Nat → FuncData) (n : Nat) : Prop where
  i_power_of : FnOk P w K mg base CX0 n (He.ga K "power_of") (fd 0) P_power_of (spI K (run n "power_of"))
  i_inverse : FnOk P w K mg base CX0 n (He.ga K "inverse") (fd 1) P_inverse (spI K (run n "inverse"))
  i_is_between : FnOk P w K mg base CX0 n (He.ga K "is_between") (fd 2) P_is_between (spI K (run n "is_between"))
  i_are_numbers : FnOk P w K mg base CX0 n (He.ga K "are_numbers") (fd 3) P_are_numbers (spI K (run n "are_numbers"))
  i_check_prime : FnOk P w K mg base CX0 n (He.ga K "check_prime") (fd 4) P_check_prime (spI K (run n "check_prime"))
  i_check_number : FnOk P w K mg base CX0 n (He.ga K "check_number") (fd 5) P_check_number (spI K (run n "check_number"))
  i_check_taps : FnOk P w K mg base CX0 n (He.ga K "check_taps") (fd 6) P_check_taps (spI K (run n "check_taps"))
  i_are_so_many : FnOk P w K mg base CX0 n (He.ga K "are_so_many") (fd 7) P_are_so_many (spI K (run n "are_so_many"))
  i_check_start : FnOk P w K mg base CX0 n (He.ga K "check_start") (fd 8) P_check_start (spI K (run n "check_start"))
  i_check_wired : FnOk P w K mg base CX0 n (He.ga K "check_wired") (fd 9) P_check_wired (spI K (run n "check_wired"))
  i_check_fraction : FnOk P w K mg base CX0 n (He.ga K "check_fraction") (fd 10) P_check_fraction (spI K (run n "check_fraction"))
  i_value_of : FnOk P w K mg base CX0 n (He.ga K "value_of") (fd 11) P_value_of (spI K (run n "value_of"))
  i_figures_of : FnOk P w K mg base CX0 n (He.ga K "figures_of") (fd 12) P_figures_of (spI K (run n "figures_of"))
  i_rest_above : FnOk P w K mg base CX0 n (He.ga K "rest_above") (fd 13) P_rest_above (spI K (run n "rest_above"))
  i_lowest : FnOk P w K mg base CX0 n (He.ga K "lowest") (fd 14) P_lowest (spI K (run n "lowest"))
  i__first_figure : FnOk P w K mg base CX0 n (He.ga K "_first_figure") (fd 15) P__first_figure (spI K (run n "_first_figure"))
  i_carry_run : FnOk P w K mg base CX0 n (He.ga K "carry_run") (fd 16) P_carry_run (spI K (run n "carry_run"))
  i_carry_fraction : FnOk P w K mg base CX0 n (He.ga K "carry_fraction") (fd 17) P_carry_fraction (spI K (run n "carry_fraction"))
  i__told_by : FnOk P w K mg base CX0 n (He.ga K "_told_by") (fd 18) P__told_by (spI K (run n "_told_by"))
  i_fraction_row : FnOk P w K mg base CX0 n (He.ga K "fraction_row") (fd 19) P_fraction_row (spI K (run n "fraction_row"))
  i__law_taken : FnOk P w K mg base CX0 n (He.ga K "_law_taken") (fd 20) P__law_taken (spI K (run n "_law_taken"))
  i__law_pick : FnOk P w K mg base CX0 n (He.ga K "_law_pick") (fd 21) P__law_pick (spI K (run n "_law_pick"))
  i__law_prime : FnOk P w K mg base CX0 n (He.ga K "_law_prime") (fd 22) P__law_prime (spI K (run n "_law_prime"))
  i__law_taps : FnOk P w K mg base CX0 n (He.ga K "_law_taps") (fd 23) P__law_taps (spI K (run n "_law_taps"))
  i__law_alike : FnOk P w K mg base CX0 n (He.ga K "_law_alike") (fd 24) P__law_alike (spI K (run n "_law_alike"))
  i__law_carried : FnOk P w K mg base CX0 n (He.ga K "_law_carried") (fd 25) P__law_carried (spI K (run n "_law_carried"))
  i__law_worth : FnOk P w K mg base CX0 n (He.ga K "_law_worth") (fd 26) P__law_worth (spI K (run n "_law_worth"))
  i__law_shared : FnOk P w K mg base CX0 n (He.ga K "_law_shared") (fd 27) P__law_shared (spI K (run n "_law_shared"))
  i__law_lowest_of : FnOk P w K mg base CX0 n (He.ga K "_law_lowest_of") (fd 28) P__law_lowest_of (spI K (run n "_law_lowest_of"))
  i__law_whole_power : FnOk P w K mg base CX0 n (He.ga K "_law_whole_power") (fd 29) P__law_whole_power (spI K (run n "_law_whole_power"))
  i_law : FnOk P w K mg base CX0 n (He.ga K "law") (fd 30) P_law (spI K (run n "law"))
section
variable {P : Program} {w : World} {K : PySem.W.Frag} {mg : Str → Option Value} {base : Heap} {fd : Nat → FuncData}
theorem ok_power_of (T : Tx K mg fd) {n : Nat} (I : Ih P w K mg base fd n) : FnOk P w K mg base CX0 (n + 1) (He.ga K "power_of") (fd 0) P_power_of (spI K (run (n + 1) "power_of")) := by
  have nd := sc_power_of.nd
  rw [run_power_of]
  refine T.f_power_of.ok sc_power_of (fun vs H Q E h => spI_len rfl h) (fun cdv A outer s H vs Q E hr h => ⟨kS K (F_power_of (run n)).body, PSs.nox ?_, fn_read rfl (show (2 : Nat) ≤ 4 by decide) h⟩)
  exact (xb_cons (xs_set (i := 2) nd rfl (by first | exact Or.inl rfl | exact Or.inr rfl) x_int) (xb_cons (x_for PassesOwn.never rfl (xi_revR1 (by rfl) T.m_reversed (by rfl) T.m_range (o_v (x_bits (o_var (i := 1) rfl (by first | exact Or.inl rfl | exact Or.inr (Or.inl rfl) | exact Or.inr (Or.inr rfl)))))) (pg_name (i := 3) nd rfl (by first | exact Or.inl rfl | exact Or.inr rfl)) gs_nm (xb_cons (xs_set (i := 2) nd rfl (by first | exact Or.inl rfl | exact Or.inr rfl) (x_bin op_mulA s_mul (o_var (i := 2) rfl (by first | exact Or.inl rfl | exact Or.inr (Or.inl rfl) | exact Or.inr (Or.inr rfl))) (o_var (i := 2) rfl (by first | exact Or.inl rfl | exact Or.inr (Or.inl rfl) | exact Or.inr (Or.inr rfl))))) (xb_one (xs_if (x_truth (o_v (x_bin op_and s_and (o_v (x_bin op_shr s_shr (o_var (i := 1) rfl (by first | exact Or.inl rfl | exact Or.inr (Or.inl rfl) | exact Or.inr (Or.inr rfl))) (o_var (i := 3) rfl (by first | exact Or.inl rfl | exact Or.inr (Or.inl rfl) | exact Or.inr (Or.inr rfl))))) (o_v x_int))) (fun _ => rfl)) (xb_one (xs_set (i := 2) nd rfl (by first | exact Or.inl rfl | exact Or.inr rfl) (x_bin op_mulA s_mul (o_var (i := 2) rfl (by first | exact Or.inl rfl | exact Or.inr (Or.inl rfl) | exact Or.inr (Or.inr rfl))) (o_var (i := 0) rfl (by first | exact Or.inl rfl | exact Or.inr (Or.inl rfl) | exact Or.inr (Or.inr rfl)))))) xb_nil)))) (xb_one (xs_ret (x_var (i := 2) rfl (by first | exact Or.inl rfl | exact Or.inr (Or.inl rfl) | exact Or.inr (Or.inr rfl)))))))
theorem ok_inverse (T : Tx K mg fd) {n : Nat} (I : Ih P w K mg base fd n) : FnOk P w K mg base CX0 (n + 1) (He.ga K "inverse") (fd 1) P_inverse (spI K (run (n + 1) "inverse")) := by
  have nd := sc_inverse.nd
  rw [run_inverse]
  refine T.f_inverse.ok sc_inverse (fun vs H Q E h => spI_len rfl h) (fun cdv A outer s H vs Q E hr h => ⟨kS K (F_inverse (run n)).body, PSs.nox ?_, fn_read rfl (show (2 : Nat) ≤ 3 by decide) h⟩)
  exact (xb_cons (xs_set (i := 2) nd rfl (by first | exact Or.inl rfl | exact Or.inr rfl) x_int) (xb_cons (x_while PassesOwn.never (x_cmpT (op_neD hr.units) s_ne (o_v (x_bin op_mod s_mod (o_v (x_bin op_mulA s_mul (o_var (i := 1) rfl (by first | exact Or.inl rfl | exact Or.inr (Or.inl rfl) | exact Or.inr (Or.inr rfl))) (o_var (i := 2) rfl (by first | exact Or.inl rfl | exact Or.inr (Or.inl rfl) | exact Or.inr (Or.inr rfl))))) (o_var (i := 0) rfl (by first | exact Or.inl rfl | exact Or.inr (Or.inl rfl) | exact Or.inr (Or.inr rfl))))) (o_v x_int) (nomark _)) (xb_one (xs_aug (i := 2) nd rfl (by first | exact Or.inl rfl | exact Or.inr rfl) (o_v x_int) ip_add))) (xb_one (xs_ret (x_var (i := 2) rfl (by first | exact Or.inl rfl | exact Or.inr (Or.inl rfl) | exact Or.inr (Or.inr rfl)))))))
theorem ok_is_between (T : Tx K mg fd) {n : Nat} (I : Ih P w K mg base fd n) : FnOk P w K mg base CX0 (n + 1) (He.ga K "is_between") (fd 2) P_is_between (spI K (run (n + 1) "is_between")) := by
  have nd := sc_is_between.nd
  rw [run_is_between]
  refine T.f_is_between.ok sc_is_between (fun vs H Q E h => spI_len rfl h) (fun cdv A outer s H vs Q E hr h => ⟨kS K (F_is_between (run n)).body, PSs.nox ?_, fn_read rfl (show (3 : Nat) ≤ 3 by decide) h⟩)
  exact (xb_one (xs_ret (x_andV (x_isi1 (t := .int) (o_var (i := 0) rfl (by first | exact Or.inl rfl | exact Or.inr (Or.inl rfl) | exact Or.inr (Or.inr rfl))) (by rfl) T.m_isinstance b_isinstance (by rfl) T.m_int b_int) (x_andV (x_notV (x_isi1 (t := .bool) (o_var (i := 0) rfl (by first | exact Or.inl rfl | exact Or.inr (Or.inl rfl) | exact Or.inr (Or.inr rfl))) (by rfl) T.m_isinstance b_isinstance (by rfl) T.m_bool b_bool)) (pe_one (x_chain op_le op_le s_le s_le (o_var (i := 1) rfl (by first | exact Or.inl rfl | exact Or.inr (Or.inl rfl) | exact Or.inr (Or.inr rfl))) (o_var (i := 0) rfl (by first | exact Or.inl rfl | exact Or.inr (Or.inl rfl) | exact Or.inr (Or.inr rfl))) (o_var (i := 2) rfl (by first | exact Or.inl rfl | exact Or.inr (Or.inl rfl) | exact Or.inr (Or.inr rfl)))))))))
theorem ok_are_numbers (T : Tx K mg fd) {n : Nat} (I : Ih P w K mg base fd n) : FnOk P w K mg base CX0 (n + 1) (He.ga K "are_numbers") (fd 3) P_are_numbers (spI K (run (n + 1) "are_numbers")) := by
  have nd := sc_are_numbers.nd
  rw [run_are_numbers]
  refine T.f_are_numbers.ok sc_are_numbers (fun vs H Q E h => spI_len rfl h) (fun cdv A outer s H vs Q E hr h => ⟨kS K (F_are_numbers (run n)).body, PSs.nox ?_, fn_read rfl (show (3 : Nat) ≤ 4 by decide) h⟩)
  exact (xb_cons (xs_if (PW.pt (x_or (x_not (x_truth (o_v (x_isi1 (t := .tuple) (o_var (i := 1) rfl (by first | exact Or.inl rfl | exact Or.inr (Or.inl rfl) | exact Or.inr (Or.inr rfl))) (by rfl) T.m_isinstance b_isinstance (by rfl) T.m_tuple b_tuple)) (fun _ => rfl))) (pw_or1 (x_cmpT op_gt s_gt (o_v (x_biB call_len_seq s_len (by rfl) T.m_len b_len (xa_cons (o_var (i := 1) rfl (by first | exact Or.inl rfl | exact Or.inr (Or.inl rfl) | exact Or.inr (Or.inr rfl))) xa_nil))) (o_var (i := 2) rfl (by first | exact Or.inl rfl | exact Or.inr (Or.inl rfl) | exact Or.inr (Or.inr rfl))) (nomark _))))) (xb_one (xs_ret x_bl)) xb_nil) (xb_one (xs_ret (x_biB (cr_all rfl) s_all (by rfl) T.m_all b_all (xa_cons (o_v (x_lc (own := [("number", 3)]) rfl nd (xi_seq (o_var (i := 1) rfl (by first | exact Or.inl rfl | exact Or.inr (Or.inl rfl) | exact Or.inr (Or.inr rfl)))) (blkOk_by (own := [("number", 3)]) (N := N_are_numbers) (sc := defScope (topS 17)) (by decide +kernel)) gs_nm (by simp [Tg.slots]) (fun _ _ _ _ _ => pg_name (i := 3) nd rfl (by first | exact Or.inl rfl | exact Or.inr rfl)) (fun _ _ _ _ _ => xts_nil) (fun _ _ _ _ _ => (x_call I.i_is_between hr (by rfl) T.g_is_between T.k_is_between T.b_is_between pass0 (xa_cons (o_var (i := 3) rfl (by first | exact Or.inl rfl | exact Or.inr (Or.inl rfl) | exact Or.inr (Or.inr rfl))) (xa_cons (o_v x_int) (xa_cons (o_v (x_bin op_sub s_sub (o_var (i := 0) rfl (by first | exact Or.inl rfl | exact Or.inr (Or.inl rfl) | exact Or.inr (Or.inr rfl))) (o_v x_int))) xa_nil))))))) xa_nil)))))
theorem ok_check_prime (T : Tx K mg fd) {n : Nat} (I : Ih P w K mg base fd n) : FnOk P w K mg base CX0 (n + 1) (He.ga K "check_prime") (fd 4) P_check_prime (spI K (run (n + 1) "check_prime")) := by
  have nd := sc_check_prime.nd
  rw [run_check_prime]
  refine T.f_check_prime.ok sc_check_prime (fun vs H Q E h => spI_len rfl h) (fun cdv A outer s H vs Q E hr h => ⟨kS K (F_check_prime (run n)).body, PSs.nox ?_, fn_read rfl (show (1 : Nat) ≤ 1 by decide) h⟩)
  exact (xb_one (xs_if (PW.pt (x_or (x_not (x_truth (o_v (x_call I.i_is_between hr (by rfl) T.g_is_between T.k_is_between T.b_is_between pass0 (xa_cons (o_var (i := 0) rfl (by first | exact Or.inl rfl | exact Or.inr (Or.inl rfl) | exact Or.inr (Or.inr rfl))) (xa_cons (o_v x_int) (xa_cons (o_v x_int) xa_nil))))) (fun _ => rfl))) (pw_or1 (x_cmpT op_notIn_seq s_notIn (o_var (i := 0) rfl (by first | exact Or.inl rfl | exact Or.inr (Or.inl rfl) | exact Or.inr (Or.inr rfl))) (o_v (x_globT (is := [2, 3, 5, 7]) (by rfl) T.g_PRIMES T.t_PRIMES)) (by rfl))))) (xb_one xs_never) xb_nil))
theorem ok_check_number (T : Tx K mg fd) {n : Nat} (I : Ih P w K mg base fd n) : FnOk P w K mg base CX0 (n + 1) (He.ga K "check_number") (fd 5) P_check_number (spI K (run (n + 1) "check_number")) := by
  have nd := sc_check_number.nd
  rw [run_check_number]
  refine T.f_check_number.ok sc_check_number (fun vs H Q E h => spI_len rfl h) (fun cdv A outer s H vs Q E hr h => ⟨kS K (F_check_number (run n)).body, PSs.nox ?_, fn_read rfl (show (3 : Nat) ≤ 3 by decide) h⟩)
  exact (xb_one (xs_if (x_not (x_truth (o_v (x_call I.i_is_between hr (by rfl) T.g_is_between T.k_is_between T.b_is_between pass0 (xa_cons (o_var (i := 0) rfl (by first | exact Or.inl rfl | exact Or.inr (Or.inl rfl) | exact Or.inr (Or.inr rfl))) (xa_cons (o_var (i := 1) rfl (by first | exact Or.inl rfl | exact Or.inr (Or.inl rfl) | exact Or.inr (Or.inr rfl))) (xa_cons (o_var (i := 2) rfl (by first | exact Or.inl rfl | exact Or.inr (Or.inl rfl) | exact Or.inr (Or.inr rfl))) xa_nil))))) (fun _ => rfl))) (xb_one xs_never) xb_nil))
theorem ok_check_taps (T : Tx K mg fd) {n : Nat} (I : Ih P w K mg base fd n) : FnOk P w K mg base CX0 (n + 1) (He.ga K "check_taps") (fd 6) P_check_taps (spI K (run (n + 1) "check_taps")) := by
  have nd := sc_check_taps.nd
  rw [run_check_taps]
  refine T.f_check_taps.ok sc_check_taps (fun vs H Q E h => spI_len rfl h) (fun cdv A outer s H vs Q E hr h => ⟨kS K (F_check_taps (run n)).body, PSs.nox ?_, fn_read rfl (show (2 : Nat) ≤ 2 by decide) h⟩)
  exact (xb_one (xs_if (x_not (x_truth (o_v (x_call I.i_are_numbers hr (by rfl) T.g_are_numbers T.k_are_numbers T.b_are_numbers pass0 (xa_cons (o_var (i := 0) rfl (by first | exact Or.inl rfl | exact Or.inr (Or.inl rfl) | exact Or.inr (Or.inr rfl))) (xa_cons (o_var (i := 1) rfl (by first | exact Or.inl rfl | exact Or.inr (Or.inl rfl) | exact Or.inr (Or.inr rfl))) (xa_cons (o_v (x_globI (by rfl) T.c_MOST_TAPS)) xa_nil))))) (fun _ => rfl))) (xb_one xs_never) xb_nil))
theorem ok_are_so_many (T : Tx K mg fd) {n : Nat} (I : Ih P w K mg base fd n) : FnOk P w K mg base CX0 (n + 1) (He.ga K "are_so_many") (fd 7) P_are_so_many (spI K (run (n + 1) "are_so_many")) := by
  have nd := sc_are_so_many.nd
  rw [run_are_so_many]
  refine T.f_are_so_many.ok sc_are_so_many (fun vs H Q E h => spI_len rfl h) (fun cdv A outer s H vs Q E hr h => ⟨kS K (F_are_so_many (run n)).body, PSs.nox ?_, fn_read rfl (show (3 : Nat) ≤ 3 by decide) h⟩)
  exact (xb_one (xs_ret (x_andV (x_call I.i_are_numbers hr (by rfl) T.g_are_numbers T.k_are_numbers T.b_are_numbers pass0 (xa_cons (o_var (i := 0) rfl (by first | exact Or.inl rfl | exact Or.inr (Or.inl rfl) | exact Or.inr (Or.inr rfl))) (xa_cons (o_var (i := 1) rfl (by first | exact Or.inl rfl | exact Or.inr (Or.inl rfl) | exact Or.inr (Or.inr rfl))) (xa_cons (o_var (i := 2) rfl (by first | exact Or.inl rfl | exact Or.inr (Or.inl rfl) | exact Or.inr (Or.inr rfl))) xa_nil)))) (pe_one (x_cmp (op_eqD hr.units) s_eq (o_v (x_biB call_len_seq s_len (by rfl) T.m_len b_len (xa_cons (o_var (i := 1) rfl (by first | exact Or.inl rfl | exact Or.inr (Or.inl rfl) | exact Or.inr (Or.inr rfl))) xa_nil))) (o_var (i := 2) rfl (by first | exact Or.inl rfl | exact Or.inr (Or.inl rfl) | exact Or.inr (Or.inr rfl))) (nomark _))))))
theorem ok_check_start (T : Tx K mg fd) {n : Nat} (I : Ih P w K mg base fd n) : FnOk P w K mg base CX0 (n + 1) (He.ga K "check_start") (fd 8) P_check_start (spI K (run (n + 1) "check_start")) := by
  have nd := sc_check_start.nd
  rw [run_check_start]
  refine T.f_check_start.ok sc_check_start (fun vs H Q E h => spI_len rfl h) (fun cdv A outer s H vs Q E hr h => ⟨kS K (F_check_start (run n)).body, PSs.nox ?_, fn_read rfl (show (3 : Nat) ≤ 3 by decide) h⟩)
  exact (xb_one (xs_if (x_not (x_truth (o_v (x_call I.i_are_so_many hr (by rfl) T.g_are_so_many T.k_are_so_many T.b_are_so_many pass0 (xa_cons (o_var (i := 0) rfl (by first | exact Or.inl rfl | exact Or.inr (Or.inl rfl) | exact Or.inr (Or.inr rfl))) (xa_cons (o_var (i := 2) rfl (by first | exact Or.inl rfl | exact Or.inr (Or.inl rfl) | exact Or.inr (Or.inr rfl))) (xa_cons (o_v (x_biB call_len_seq s_len (by rfl) T.m_len b_len (xa_cons (o_var (i := 1) rfl (by first | exact Or.inl rfl | exact Or.inr (Or.inl rfl) | exact Or.inr (Or.inr rfl))) xa_nil))) xa_nil))))) (fun _ => rfl))) (xb_one xs_never) xb_nil))
theorem ok_check_wired (T : Tx K mg fd) {n : Nat} (I : Ih P w K mg base fd n) : FnOk P w K mg base CX0 (n + 1) (He.ga K "check_wired") (fd 9) P_check_wired (spI K (run (n + 1) "check_wired")) := by
  have nd := sc_check_wired.nd
  rw [run_check_wired]
  refine T.f_check_wired.ok sc_check_wired (fun vs H Q E h => spI_len rfl h) (fun cdv A outer s H vs Q E hr h => ⟨kS K (F_check_wired (run n)).body, PSs.nox ?_, fn_read rfl (show (3 : Nat) ≤ 3 by decide) h⟩)
  exact (xb_cons (xs_ex (x_call I.i_check_prime hr (by rfl) T.g_check_prime T.k_check_prime T.b_check_prime pass0 (xa_cons (o_var (i := 0) rfl (by first | exact Or.inl rfl | exact Or.inr (Or.inl rfl) | exact Or.inr (Or.inr rfl))) xa_nil))) (xb_cons (xs_ex (x_call I.i_check_taps hr (by rfl) T.g_check_taps T.k_check_taps T.b_check_taps pass0 (xa_cons (o_var (i := 0) rfl (by first | exact Or.inl rfl | exact Or.inr (Or.inl rfl) | exact Or.inr (Or.inr rfl))) (xa_cons (o_var (i := 1) rfl (by first | exact Or.inl rfl | exact Or.inr (Or.inl rfl) | exact Or.inr (Or.inr rfl))) xa_nil)))) (xb_one (xs_ex (x_call I.i_check_start hr (by rfl) T.g_check_start T.k_check_start T.b_check_start pass0 (xa_cons (o_var (i := 0) rfl (by first | exact Or.inl rfl | exact Or.inr (Or.inl rfl) | exact Or.inr (Or.inr rfl))) (xa_cons (o_var (i := 1) rfl (by first | exact Or.inl rfl | exact Or.inr (Or.inl rfl) | exact Or.inr (Or.inr rfl))) (xa_cons (o_var (i := 2) rfl (by first | exact Or.inl rfl | exact Or.inr (Or.inl rfl) | exact Or.inr (Or.inr rfl))) xa_nil))))))))
theorem ok_check_fraction (T : Tx K mg fd) {n : Nat} (I : Ih P w K mg base fd n) : FnOk P w K mg base CX0 (n + 1) (He.ga K "check_fraction") (fd 10) P_check_fraction (spI K (run (n + 1) "check_fraction")) := by
  have nd := sc_check_fraction.nd
  rw [run_check_fraction]
  refine T.f_check_fraction.ok sc_check_fraction (fun vs H Q E h => spI_len rfl h) (fun cdv A outer s H vs Q E hr h => ⟨kS K (F_check_fraction (run n)).body, PSs.nox ?_, fn_read rfl (show (2 : Nat) ≤ 4 by decide) h⟩)
  exact (xb_cons (xs_if (PW.pt (x_or (x_not (x_truth (o_v (x_isi1 (t := .tuple) (o_var (i := 1) rfl (by first | exact Or.inl rfl | exact Or.inr (Or.inl rfl) | exact Or.inr (Or.inr rfl))) (by rfl) T.m_isinstance b_isinstance (by rfl) T.m_tuple b_tuple)) (fun _ => rfl))) (pw_or1 (x_cmpT (op_neD hr.units) s_ne (o_v (x_biB call_len_seq s_len (by rfl) T.m_len b_len (xa_cons (o_var (i := 1) rfl (by first | exact Or.inl rfl | exact Or.inr (Or.inl rfl) | exact Or.inr (Or.inr rfl))) xa_nil))) (o_v x_int) (nomark _))))) (xb_one xs_never) xb_nil) (xb_cons (xs_unp (pg_tup rfl (pgs_cons (pg_name (i := 2) nd rfl (by first | exact Or.inl rfl | exact Or.inr rfl)) (pgs_cons (pg_name (i := 3) nd rfl (by first | exact Or.inl rfl | exact Or.inr rfl)) pgs_nil))) rfl (GSs.cons (GSs.cons GSs.nil)) (x_var (i := 1) rfl (by first | exact Or.inl rfl | exact Or.inr (Or.inl rfl) | exact Or.inr (Or.inr rfl)))) (xb_one (xs_if (PW.pt (x_or (x_not (x_truth (o_v (x_call I.i_is_between hr (by rfl) T.g_is_between T.k_is_between T.b_is_between pass0 (xa_cons (o_var (i := 2) rfl (by first | exact Or.inl rfl | exact Or.inr (Or.inl rfl) | exact Or.inr (Or.inr rfl))) (xa_cons (o_v (x_un un_neg s_neg (o_v (x_globI (by rfl) T.c_MOST_PART)))) (xa_cons (o_v (x_globI (by rfl) T.c_MOST_PART)) xa_nil))))) (fun _ => rfl))) (x_or (x_not (x_truth (o_v (x_call I.i_is_between hr (by rfl) T.g_is_between T.k_is_between T.b_is_between pass0 (xa_cons (o_var (i := 3) rfl (by first | exact Or.inl rfl | exact Or.inr (Or.inl rfl) | exact Or.inr (Or.inr rfl))) (xa_cons (o_v x_int) (xa_cons (o_v (x_globI (by rfl) T.c_MOST_PART)) xa_nil))))) (fun _ => rfl))) (pw_or1 (x_cmpT (op_eqD hr.units) s_eq (o_v (x_bin op_mod s_mod (o_var (i := 3) rfl (by first | exact Or.inl rfl | exact Or.inr (Or.inl rfl) | exact Or.inr (Or.inr rfl))) (o_var (i := 0) rfl (by first | exact Or.inl rfl | exact Or.inr (Or.inl rfl) | exact Or.inr (Or.inr rfl))))) (o_v x_int) (nomark _)))))) (xb_one xs_never) xb_nil))))
theorem ok_value_of (T : Tx K mg fd) {n : Nat} (I : Ih P w K mg base fd n) : FnOk P w K mg base CX0 (n + 1) (He.ga K "value_of") (fd 11) P_value_of (spI K (run (n + 1) "value_of")) := by
  have nd := sc_value_of.nd
  rw [run_value_of]
  refine T.f_value_of.ok sc_value_of (fun vs H Q E h => spI_len rfl h) (fun cdv A outer s H vs Q E hr h => ⟨kS K (F_value_of (run n)).body, PSs.nox ?_, fn_read rfl (show (2 : Nat) ≤ 4 by decide) h⟩)
  exact (xb_cons (xs_set (i := 2) nd rfl (by first | exact Or.inl rfl | exact Or.inr rfl) x_int) (xb_cons (x_for PassesOwn.never rfl (xi_revS (by rfl) T.m_reversed (o_v (x_var (i := 1) rfl (by first | exact Or.inl rfl | exact Or.inr (Or.inl rfl) | exact Or.inr (Or.inr rfl))))) (pg_name (i := 3) nd rfl (by first | exact Or.inl rfl | exact Or.inr rfl)) gs_nm (xb_one (xs_set (i := 2) nd rfl (by first | exact Or.inl rfl | exact Or.inr rfl) (x_bin op_addA s_add (o_v (x_bin op_mulA s_mul (o_var (i := 2) rfl (by first | exact Or.inl rfl | exact Or.inr (Or.inl rfl) | exact Or.inr (Or.inr rfl))) (o_var (i := 0) rfl (by first | exact Or.inl rfl | exact Or.inr (Or.inl rfl) | exact Or.inr (Or.inr rfl))))) (o_var (i := 3) rfl (by first | exact Or.inl rfl | exact Or.inr (Or.inl rfl) | exact Or.inr (Or.inr rfl))))))) (xb_one (xs_ret (x_var (i := 2) rfl (by first | exact Or.inl rfl | exact Or.inr (Or.inl rfl) | exact Or.inr (Or.inr rfl)))))))
theorem ok_figures_of (T : Tx K mg fd) {n : Nat} (I : Ih P w K mg base fd n) : FnOk P w K mg base CX0 (n + 1) (He.ga K "figures_of") (fd 12) P_figures_of (spI K (run (n + 1) "figures_of")) := by
  have nd := sc_figures_of.nd
  rw [run_figures_of]
  refine T.f_figures_of.ok sc_figures_of (fun vs H Q E h => spI_len rfl h) (fun cdv A outer s H vs Q E hr h => ⟨kS K (F_figures_of (run n)).body, PSs.nox ?_, fn_read rfl (show (4 : Nat) ≤ 6 by decide) h⟩)
  exact (xb_cons (xs_set (i := 4) nd rfl (by first | exact Or.inl rfl | exact Or.inr rfl) (x_lst xa_nil)) (xb_cons (x_for PassesOwn.never rfl (xi_range1 (by rfl) T.m_range (o_var (i := 3) rfl (by first | exact Or.inl rfl | exact Or.inr (Or.inl rfl) | exact Or.inr (Or.inr rfl)))) (pg_name (i := 5) nd rfl (by first | exact Or.inl rfl | exact Or.inr rfl)) gs_nm (xb_cons (xs_app (i := 4) (pe_var (i := 4) rfl (by first | exact Or.inl rfl | exact Or.inr (Or.inl rfl) | exact Or.inr (Or.inr rfl))) (x_call I.i__first_figure hr (by rfl) T.g__first_figure T.k__first_figure T.b__first_figure pass0 (xa_cons (o_var (i := 0) rfl (by first | exact Or.inl rfl | exact Or.inr (Or.inl rfl) | exact Or.inr (Or.inr rfl))) (xa_cons (o_var (i := 1) rfl (by first | exact Or.inl rfl | exact Or.inr (Or.inl rfl) | exact Or.inr (Or.inr rfl))) (xa_cons (o_var (i := 2) rfl (by first | exact Or.inl rfl | exact Or.inr (Or.inl rfl) | exact Or.inr (Or.inr rfl))) xa_nil))))) (xb_one (xs_set (i := 1) nd rfl (by first | exact Or.inl rfl | exact Or.inr rfl) (x_call I.i_rest_above hr (by rfl) T.g_rest_above T.k_rest_above T.b_rest_above pass0 (xa_cons (o_var (i := 0) rfl (by first | exact Or.inl rfl | exact Or.inr (Or.inl rfl) | exact Or.inr (Or.inr rfl))) (xa_cons (o_var (i := 1) rfl (by first | exact Or.inl rfl | exact Or.inr (Or.inl rfl) | exact Or.inr (Or.inr rfl))) (xa_cons (o_var (i := 2) rfl (by first | exact Or.inl rfl | exact Or.inr (Or.inl rfl) | exact Or.inr (Or.inr rfl))) xa_nil)))))))) (xb_one (xs_ret (x_biT call_tuple_of s_tupO (by rfl) T.m_tuple b_tuple (xa_cons (o_var (i := 4) rfl (by first | exact Or.inl rfl | exact Or.inr (Or.inl rfl) | exact Or.inr (Or.inr rfl))) xa_nil))))))
theorem ok_rest_above (T : Tx K mg fd) {n : Nat} (I : Ih P w K mg base fd n) : FnOk P w K mg base CX0 (n + 1) (He.ga K "rest_above") (fd 13) P_rest_above (spI K (run (n + 1) "rest_above")) := by
  have nd := sc_rest_above.nd
  rw [run_rest_above]
  refine T.f_rest_above.ok sc_rest_above (fun vs H Q E h => spI_len rfl h) (fun cdv A outer s H vs Q E hr h => ⟨kS K (F_rest_above (run n)).body, PSs.nox ?_, fn_read rfl (show (3 : Nat) ≤ 3 by decide) h⟩)
  exact (xb_one (xs_ret (x_bin op_fdivA s_fdiv (o_v (x_bin op_sub s_sub (o_var (i := 1) rfl (by first | exact Or.inl rfl | exact Or.inr (Or.inl rfl) | exact Or.inr (Or.inr rfl))) (o_v (x_bin op_mulA s_mul (o_v (x_call I.i__first_figure hr (by rfl) T.g__first_figure T.k__first_figure T.b__first_figure pass0 (xa_cons (o_var (i := 0) rfl (by first | exact Or.inl rfl | exact Or.inr (Or.inl rfl) | exact Or.inr (Or.inr rfl))) (xa_cons (o_var (i := 1) rfl (by first | exact Or.inl rfl | exact Or.inr (Or.inl rfl) | exact Or.inr (Or.inr rfl))) (xa_cons (o_var (i := 2) rfl (by first | exact Or.inl rfl | exact Or.inr (Or.inl rfl) | exact Or.inr (Or.inr rfl))) xa_nil))))) (o_var (i := 2) rfl (by first | exact Or.inl rfl | exact Or.inr (Or.inl rfl) | exact Or.inr (Or.inr rfl))))))) (o_var (i := 0) rfl (by first | exact Or.inl rfl | exact Or.inr (Or.inl rfl) | exact Or.inr (Or.inr rfl))))))
theorem ok_lowest (T : Tx K mg fd) {n : Nat} (I : Ih P w K mg base fd n) : FnOk P w K mg base CX0 (n + 1) (He.ga K "lowest") (fd 14) P_lowest (spI K (run (n + 1) "lowest")) := by
  have nd := sc_lowest.nd
  rw [run_lowest]
  refine T.f_lowest.ok sc_lowest (fun vs H Q E h => spI_len rfl h) (fun cdv A outer s H vs Q E hr h => ⟨kS K (F_lowest (run n)).body, PSs.nox ?_, fn_read rfl (show (2 : Nat) ≤ 3 by decide) h⟩)
  exact (xb_cons (xs_set (i := 2) nd rfl (by first | exact Or.inl rfl | exact Or.inr rfl) (x_gcd (by rfl) T.m_gcd (xa_cons (o_var (i := 0) rfl (by first | exact Or.inl rfl | exact Or.inr (Or.inl rfl) | exact Or.inr (Or.inr rfl))) (xa_cons (o_var (i := 1) rfl (by first | exact Or.inl rfl | exact Or.inr (Or.inl rfl) | exact Or.inr (Or.inr rfl))) xa_nil)))) (xb_one (xs_ret (x_tup (xa_cons (o_v (x_bin op_fdivA s_fdiv (o_var (i := 0) rfl (by first | exact Or.inl rfl | exact Or.inr (Or.inl rfl) | exact Or.inr (Or.inr rfl))) (o_var (i := 2) rfl (by first | exact Or.inl rfl | exact Or.inr (Or.inl rfl) | exact Or.inr (Or.inr rfl))))) (xa_cons (o_v (x_bin op_fdivA s_fdiv (o_var (i := 1) rfl (by first | exact Or.inl rfl | exact Or.inr (Or.inl rfl) | exact Or.inr (Or.inr rfl))) (o_var (i := 2) rfl (by first | exact Or.inl rfl | exact Or.inr (Or.inl rfl) | exact Or.inr (Or.inr rfl))))) xa_nil))))))
theorem ok__first_figure (T : Tx K mg fd) {n : Nat} (I : Ih P w K mg base fd n) : FnOk P w K mg base CX0 (n + 1) (He.ga K "_first_figure") (fd 15) P__first_figure (spI K (run (n + 1) "_first_figure")) := by
  have nd := sc__first_figure.nd
  rw [run__first_figure]
  refine T.f__first_figure.ok sc__first_figure (fun vs H Q E h => spI_len rfl h) (fun cdv A outer s H vs Q E hr h => ⟨kS K (F__first_figure (run n)).body, PSs.nox ?_, fn_read rfl (show (3 : Nat) ≤ 3 by decide) h⟩)
  exact (xb_one (xs_ret (x_bin op_mod s_mod (o_v (x_bin op_mulA s_mul (o_var (i := 1) rfl (by first | exact Or.inl rfl | exact Or.inr (Or.inl rfl) | exact Or.inr (Or.inr rfl))) (o_v (x_call I.i_inverse hr (by rfl) T.g_inverse T.k_inverse T.b_inverse pass0 (xa_cons (o_var (i := 0) rfl (by first | exact Or.inl rfl | exact Or.inr (Or.inl rfl) | exact Or.inr (Or.inr rfl))) (xa_cons (o_var (i := 2) rfl (by first | exact Or.inl rfl | exact Or.inr (Or.inl rfl) | exact Or.inr (Or.inr rfl))) xa_nil)))))) (o_var (i := 0) rfl (by first | exact Or.inl rfl | exact Or.inr (Or.inl rfl) | exact Or.inr (Or.inr rfl))))))
theorem ok_carry_run (T : Tx K mg fd) {n : Nat} (I : Ih P w K mg base fd n) : FnOk P w K mg base CX0 (n + 1) (He.ga K "carry_run") (fd 16) P_carry_run (spI K (run (n + 1) "carry_run")) := by
  have nd := sc_carry_run.nd
  rw [run_carry_run]
  refine T.f_carry_run.ok sc_carry_run (fun vs H Q E h => spI_len rfl h) (fun cdv A outer s H vs Q E hr h => ⟨kS K (F_carry_run (run n)).body, PSs.nox ?_, fn_read rfl (show (5 : Nat) ≤ 9 by decide) h⟩)
  exact (xb_cons (xs_ex (x_call I.i_check_wired hr (by rfl) T.g_check_wired T.k_check_wired T.b_check_wired pass0 (xa_cons (o_var (i := 0) rfl (by first | exact Or.inl rfl | exact Or.inr (Or.inl rfl) | exact Or.inr (Or.inr rfl))) (xa_cons (o_var (i := 1) rfl (by first | exact Or.inl rfl | exact Or.inr (Or.inl rfl) | exact Or.inr (Or.inr rfl))) (xa_cons (o_var (i := 2) rfl (by first | exact Or.inl rfl | exact Or.inr (Or.inl rfl) | exact Or.inr (Or.inr rfl))) xa_nil))))) (xb_cons (xs_ex (x_call I.i_check_number hr (by rfl) T.g_check_number T.k_check_number T.b_check_number pass0 (xa_cons (o_var (i := 3) rfl (by first | exact Or.inl rfl | exact Or.inr (Or.inl rfl) | exact Or.inr (Or.inr rfl))) (xa_cons (o_v (x_un un_neg s_neg (o_v (x_globI (by rfl) T.c_MOST_CARRY)))) (xa_cons (o_v (x_globI (by rfl) T.c_MOST_CARRY)) xa_nil))))) (xb_cons (xs_ex (x_call I.i_check_number hr (by rfl) T.g_check_number T.k_check_number T.b_check_number pass0 (xa_cons (o_var (i := 4) rfl (by first | exact Or.inl rfl | exact Or.inr (Or.inl rfl) | exact Or.inr (Or.inr rfl))) (xa_cons (o_v x_int) (xa_cons (o_v (x_globI (by rfl) T.c_MOST_NUMBERS)) xa_nil))))) (xb_cons (xs_set (i := 5) nd rfl (by first | exact Or.inl rfl | exact Or.inr rfl) (x_biT call_list_of s_lstO (by rfl) T.m_list b_list (xa_cons (o_v (x_sl (o_var (i := 2) rfl (by first | exact Or.inl rfl | exact Or.inr (Or.inl rfl) | exact Or.inr (Or.inr rfl))) xp_none (xp_some (o_var (i := 4) rfl (by first | exact Or.inl rfl | exact Or.inr (Or.inl rfl) | exact Or.inr (Or.inr rfl)))))) xa_nil))) (xb_cons (x_while PassesOwn.never (x_cmpT op_lt s_lt (o_v (x_biB call_len_seq s_len (by rfl) T.m_len b_len (xa_cons (o_var (i := 5) rfl (by first | exact Or.inl rfl | exact Or.inr (Or.inl rfl) | exact Or.inr (Or.inr rfl))) xa_nil))) (o_var (i := 4) rfl (by first | exact Or.inl rfl | exact Or.inr (Or.inl rfl) | exact Or.inr (Or.inr rfl))) (nomark _)) (xb_cons (xs_set (i := 6) nd rfl (by first | exact Or.inl rfl | exact Or.inr rfl) (x_bin op_addA s_add (o_var (i := 3) rfl (by first | exact Or.inl rfl | exact Or.inr (Or.inl rfl) | exact Or.inr (Or.inr rfl))) (o_v (x_biB (cr_sum2 rfl) s_sum2 (by rfl) T.m_sum b_sum (xa_cons (o_v (x_lc (own := [("at", 7), ("tap", 8)]) rfl nd (xi_enum (by rfl) T.m_enumerate (o_v (x_var (i := 1) rfl (by first | exact Or.inl rfl | exact Or.inr (Or.inl rfl) | exact Or.inr (Or.inr rfl))))) (blkOk_by (own := [("at", 7), ("tap", 8)]) (N := N_carry_run) (sc := defScope (topS 33)) (by decide +kernel)) (gs_tup rfl (GSs.cons (GSs.cons GSs.nil))) (by simp [Tg.slots]) (fun _ _ _ _ _ => pg_tup rfl (pgs_cons (pg_name (i := 7) nd rfl (by first | exact Or.inl rfl | exact Or.inr rfl)) (pgs_cons (pg_name (i := 8) nd rfl (by first | exact Or.inl rfl | exact Or.inr rfl)) pgs_nil))) (fun _ _ _ _ _ => xts_nil) (fun _ _ _ _ _ => (x_bin op_mulA s_mul (o_var (i := 8) rfl (by first | exact Or.inl rfl | exact Or.inr (Or.inl rfl) | exact Or.inr (Or.inr rfl))) (o_v (x_ix ix_any s_ix (o_var (i := 5) rfl (by first | exact Or.inl rfl | exact Or.inr (Or.inl rfl) | exact Or.inr (Or.inr rfl))) (o_v (x_bin op_sub s_sub (o_v (x_un un_neg s_neg (o_v x_int))) (o_var (i := 7) rfl (by first | exact Or.inl rfl | exact Or.inr (Or.inl rfl) | exact Or.inr (Or.inr rfl))))) (fun _ _ => rfl))))))) xa_nil))))) (xb_cons (xs_app (i := 5) (pe_var (i := 5) rfl (by first | exact Or.inl rfl | exact Or.inr (Or.inl rfl) | exact Or.inr (Or.inr rfl))) (x_bin op_mod s_mod (o_var (i := 6) rfl (by first | exact Or.inl rfl | exact Or.inr (Or.inl rfl) | exact Or.inr (Or.inr rfl))) (o_var (i := 0) rfl (by first | exact Or.inl rfl | exact Or.inr (Or.inl rfl) | exact Or.inr (Or.inr rfl))))) (xb_one (xs_set (i := 3) nd rfl (by first | exact Or.inl rfl | exact Or.inr rfl) (x_bin op_fdivA s_fdiv (o_var (i := 6) rfl (by first | exact Or.inl rfl | exact Or.inr (Or.inl rfl) | exact Or.inr (Or.inr rfl))) (o_var (i := 0) rfl (by first | exact Or.inl rfl | exact Or.inr (Or.inl rfl) | exact Or.inr (Or.inr rfl))))))))) (xb_one (xs_ret (x_biT call_tuple_of s_tupO (by rfl) T.m_tuple b_tuple (xa_cons (o_var (i := 5) rfl (by first | exact Or.inl rfl | exact Or.inr (Or.inl rfl) | exact Or.inr (Or.inr rfl))) xa_nil)))))))))
theorem ok_carry_fraction (T : Tx K mg fd) {n : Nat} (I : Ih P w K mg base fd n) : FnOk P w K mg base CX0 (n + 1) (He.ga K "carry_fraction") (fd 17) P_carry_fraction (spI K (run (n + 1) "carry_fraction")) := by
  have nd := sc_carry_fraction.nd
  rw [run_carry_fraction]
  refine T.f_carry_fraction.ok sc_carry_fraction (fun vs H Q E h => spI_len rfl h) (fun cdv A outer s H vs Q E hr h => ⟨kS K (F_carry_fraction (run n)).body, PSs.nox ?_, fn_read rfl (show (4 : Nat) ≤ 6 by decide) h⟩)
  exact (xb_cons (xs_ex (x_call I.i_check_wired hr (by rfl) T.g_check_wired T.k_check_wired T.b_check_wired pass0 (xa_cons (o_var (i := 0) rfl (by first | exact Or.inl rfl | exact Or.inr (Or.inl rfl) | exact Or.inr (Or.inr rfl))) (xa_cons (o_var (i := 1) rfl (by first | exact Or.inl rfl | exact Or.inr (Or.inl rfl) | exact Or.inr (Or.inr rfl))) (xa_cons (o_var (i := 2) rfl (by first | exact Or.inl rfl | exact Or.inr (Or.inl rfl) | exact Or.inr (Or.inr rfl))) xa_nil))))) (xb_cons (xs_ex (x_call I.i_check_number hr (by rfl) T.g_check_number T.k_check_number T.b_check_number pass0 (xa_cons (o_var (i := 3) rfl (by first | exact Or.inl rfl | exact Or.inr (Or.inl rfl) | exact Or.inr (Or.inr rfl))) (xa_cons (o_v (x_un un_neg s_neg (o_v (x_globI (by rfl) T.c_MOST_CARRY)))) (xa_cons (o_v (x_globI (by rfl) T.c_MOST_CARRY)) xa_nil))))) (xb_cons (xs_set (i := 4) nd rfl (by first | exact Or.inl rfl | exact Or.inr rfl) (x_bin op_sub s_sub (o_v (x_call I.i_value_of hr (by rfl) T.g_value_of T.k_value_of T.b_value_of pass0 (xa_cons (o_var (i := 0) rfl (by first | exact Or.inl rfl | exact Or.inr (Or.inl rfl) | exact Or.inr (Or.inr rfl))) (xa_cons (o_v (x_bin op_addA s_add (o_v (x_tup (xa_cons (o_v x_int) xa_nil))) (o_var (i := 1) rfl (by first | exact Or.inl rfl | exact Or.inr (Or.inl rfl) | exact Or.inr (Or.inr rfl))))) xa_nil)))) (o_v x_int))) (xb_cons (xs_set (i := 5) nd rfl (by first | exact Or.inl rfl | exact Or.inr rfl) (x_bin op_sub s_sub (o_v (x_call I.i__told_by hr (by rfl) T.g__told_by T.k__told_by T.b__told_by pass0 (xa_cons (o_var (i := 0) rfl (by first | exact Or.inl rfl | exact Or.inr (Or.inl rfl) | exact Or.inr (Or.inr rfl))) (xa_cons (o_var (i := 1) rfl (by first | exact Or.inl rfl | exact Or.inr (Or.inl rfl) | exact Or.inr (Or.inr rfl))) (xa_cons (o_var (i := 2) rfl (by first | exact Or.inl rfl | exact Or.inr (Or.inl rfl) | exact Or.inr (Or.inr rfl))) xa_nil))))) (o_v (x_bin op_mulA s_mul (o_v (x_call I.i_power_of hr (by rfl) T.g_power_of T.k_power_of T.b_power_of pass0 (xa_cons (o_var (i := 0) rfl (by first | exact Or.inl rfl | exact Or.inr (Or.inl rfl) | exact Or.inr (Or.inr rfl))) (xa_cons (o_v (x_biB call_len_seq s_len (by rfl) T.m_len b_len (xa_cons (o_var (i := 1) rfl (by first | exact Or.inl rfl | exact Or.inr (Or.inl rfl) | exact Or.inr (Or.inr rfl))) xa_nil))) xa_nil)))) (o_var (i := 3) rfl (by first | exact Or.inl rfl | exact Or.inr (Or.inl rfl) | exact Or.inr (Or.inr rfl))))))) (xb_one (xs_ret (x_ite (x_cmpT op_gt s_gt (o_var (i := 4) rfl (by first | exact Or.inl rfl | exact Or.inr (Or.inl rfl) | exact Or.inr (Or.inr rfl))) (o_v x_int) (nomark _)) (x_call I.i_lowest hr (by rfl) T.g_lowest T.k_lowest T.b_lowest pass0 (xa_cons (o_var (i := 5) rfl (by first | exact Or.inl rfl | exact Or.inr (Or.inl rfl) | exact Or.inr (Or.inr rfl))) (xa_cons (o_var (i := 4) rfl (by first | exact Or.inl rfl | exact Or.inr (Or.inl rfl) | exact Or.inr (Or.inr rfl))) xa_nil))) (x_call I.i_lowest hr (by rfl) T.g_lowest T.k_lowest T.b_lowest pass0 (xa_cons (o_v (x_un un_neg s_neg (o_var (i := 5) rfl (by first | exact Or.inl rfl | exact Or.inr (Or.inl rfl) | exact Or.inr (Or.inr rfl))))) (xa_cons (o_v (x_un un_neg s_neg (o_var (i := 4) rfl (by first | exact Or.inl rfl | exact Or.inr (Or.inl rfl) | exact Or.inr (Or.inr rfl))))) xa_nil))))))))))
theorem ok__told_by (T : Tx K mg fd) {n : Nat} (I : Ih P w K mg base fd n) : FnOk P w K mg base CX0 (n + 1) (He.ga K "_told_by") (fd 18) P__told_by (spI K (run (n + 1) "_told_by")) := by
  have nd := sc__told_by.nd
  rw [run__told_by]
  refine T.f__told_by.ok sc__told_by (fun vs H Q E h => spI_len rfl h) (fun cdv A outer s H vs Q E hr h => ⟨kS K (F__told_by (run n)).body, PSs.nox ?_, fn_read rfl (show (3 : Nat) ≤ 6 by decide) h⟩)
  exact (xb_cons (xs_set (i := 3) nd rfl (by first | exact Or.inl rfl | exact Or.inr rfl) (x_un un_neg s_neg (o_v (x_call I.i_value_of hr (by rfl) T.g_value_of T.k_value_of T.b_value_of pass0 (xa_cons (o_var (i := 0) rfl (by first | exact Or.inl rfl | exact Or.inr (Or.inl rfl) | exact Or.inr (Or.inr rfl))) (xa_cons (o_var (i := 2) rfl (by first | exact Or.inl rfl | exact Or.inr (Or.inl rfl) | exact Or.inr (Or.inr rfl))) xa_nil)))))) (xb_cons (x_for PassesOwn.never rfl (xi_enum (by rfl) T.m_enumerate (o_v (x_var (i := 1) rfl (by first | exact Or.inl rfl | exact Or.inr (Or.inl rfl) | exact Or.inr (Or.inr rfl))))) (pg_tup rfl (pgs_cons (pg_name (i := 4) nd rfl (by first | exact Or.inl rfl | exact Or.inr rfl)) (pgs_cons (pg_name (i := 5) nd rfl (by first | exact Or.inl rfl | exact Or.inr rfl)) pgs_nil))) (gs_tup rfl (GSs.cons (GSs.cons GSs.nil))) (xb_one (xs_aug (i := 3) nd rfl (by first | exact Or.inl rfl | exact Or.inr rfl) (o_v (x_bin op_mulA s_mul (o_v (x_bin op_mulA s_mul (o_var (i := 5) rfl (by first | exact Or.inl rfl | exact Or.inr (Or.inl rfl) | exact Or.inr (Or.inr rfl))) (o_v (x_call I.i_power_of hr (by rfl) T.g_power_of T.k_power_of T.b_power_of pass0 (xa_cons (o_var (i := 0) rfl (by first | exact Or.inl rfl | exact Or.inr (Or.inl rfl) | exact Or.inr (Or.inr rfl))) (xa_cons (o_v (x_bin op_addA s_add (o_var (i := 4) rfl (by first | exact Or.inl rfl | exact Or.inr (Or.inl rfl) | exact Or.inr (Or.inr rfl))) (o_v x_int))) xa_nil)))))) (o_v (x_call I.i_value_of hr (by rfl) T.g_value_of T.k_value_of T.b_value_of pass0 (xa_cons (o_var (i := 0) rfl (by first | exact Or.inl rfl | exact Or.inr (Or.inl rfl) | exact Or.inr (Or.inr rfl))) (xa_cons (o_v (x_sl (o_var (i := 2) rfl (by first | exact Or.inl rfl | exact Or.inr (Or.inl rfl) | exact Or.inr (Or.inr rfl))) xp_none (xp_some (o_v (x_bin op_sub s_sub (o_v (x_bin op_sub s_sub (o_v (x_biB call_len_seq s_len (by rfl) T.m_len b_len (xa_cons (o_var (i := 2) rfl (by first | exact Or.inl rfl | exact Or.inr (Or.inl rfl) | exact Or.inr (Or.inr rfl))) xa_nil))) (o_var (i := 4) rfl (by first | exact Or.inl rfl | exact Or.inr (Or.inl rfl) | exact Or.inr (Or.inr rfl))))) (o_v x_int)))))) xa_nil)))))) ip_add))) (xb_one (xs_ret (x_var (i := 3) rfl (by first | exact Or.inl rfl | exact Or.inr (Or.inl rfl) | exact Or.inr (Or.inr rfl)))))))
theorem ok_fraction_row (T : Tx K mg fd) {n : Nat} (I : Ih P w K mg base fd n) : FnOk P w K mg base CX0 (n + 1) (He.ga K "fraction_row") (fd 19) P_fraction_row (spI K (run (n + 1) "fraction_row")) := by
  have nd := sc_fraction_row.nd
  rw [run_fraction_row]
  refine T.f_fraction_row.ok sc_fraction_row (fun vs H Q E h => spI_len rfl h) (fun cdv A outer s H vs Q E hr h => ⟨kS K (F_fraction_row (run n)).body, PSs.nox ?_, fn_read rfl (show (3 : Nat) ≤ 5 by decide) h⟩)
  exact (xb_cons (xs_ex (x_call I.i_check_prime hr (by rfl) T.g_check_prime T.k_check_prime T.b_check_prime pass0 (xa_cons (o_var (i := 0) rfl (by first | exact Or.inl rfl | exact Or.inr (Or.inl rfl) | exact Or.inr (Or.inr rfl))) xa_nil))) (xb_cons (xs_ex (x_call I.i_check_fraction hr (by rfl) T.g_check_fraction T.k_check_fraction T.b_check_fraction pass0 (xa_cons (o_var (i := 0) rfl (by first | exact Or.inl rfl | exact Or.inr (Or.inl rfl) | exact Or.inr (Or.inr rfl))) (xa_cons (o_var (i := 1) rfl (by first | exact Or.inl rfl | exact Or.inr (Or.inl rfl) | exact Or.inr (Or.inr rfl))) xa_nil)))) (xb_cons (xs_ex (x_call I.i_check_number hr (by rfl) T.g_check_number T.k_check_number T.b_check_number pass0 (xa_cons (o_var (i := 2) rfl (by first | exact Or.inl rfl | exact Or.inr (Or.inl rfl) | exact Or.inr (Or.inr rfl))) (xa_cons (o_v x_int) (xa_cons (o_v (x_globI (by rfl) T.c_MOST_NUMBERS)) xa_nil))))) (xb_cons (xs_unp (pg_tup rfl (pgs_cons (pg_name (i := 3) nd rfl (by first | exact Or.inl rfl | exact Or.inr rfl)) (pgs_cons (pg_name (i := 4) nd rfl (by first | exact Or.inl rfl | exact Or.inr rfl)) pgs_nil))) rfl (GSs.cons (GSs.cons GSs.nil)) (x_var (i := 1) rfl (by first | exact Or.inl rfl | exact Or.inr (Or.inl rfl) | exact Or.inr (Or.inr rfl)))) (xb_one (xs_ret (x_call I.i_figures_of hr (by rfl) T.g_figures_of T.k_figures_of T.b_figures_of pass0 (xa_cons (o_var (i := 0) rfl (by first | exact Or.inl rfl | exact Or.inr (Or.inl rfl) | exact Or.inr (Or.inr rfl))) (xa_cons (o_var (i := 3) rfl (by first | exact Or.inl rfl | exact Or.inr (Or.inl rfl) | exact Or.inr (Or.inr rfl))) (xa_cons (o_var (i := 4) rfl (by first | exact Or.inl rfl | exact Or.inr (Or.inl rfl) | exact Or.inr (Or.inr rfl))) (xa_cons (o_var (i := 2) rfl (by first | exact Or.inl rfl | exact Or.inr (Or.inl rfl) | exact Or.inr (Or.inr rfl))) xa_nil)))))))))))
theorem ok__law_taken (T : Tx K mg fd) {n : Nat} (I : Ih P w K mg base fd n) : FnOk P w K mg base CX0 (n + 1) (He.ga K "_law_taken") (fd 20) P__law_taken (spI K (run (n + 1) "_law_taken")) := by
  have nd := sc__law_taken.nd
  rw [run__law_taken]
  refine T.f__law_taken.ok sc__law_taken (fun vs H Q E h => spI_len rfl h) (fun cdv A outer s H vs Q E hr h => ⟨kS K (F__law_taken (run n)).body, PSs.nox ?_, fn_read rfl (show (2 : Nat) ≤ 4 by decide) h⟩)
  exact (xb_cons (xs_if (x_cmpT op_gt s_gt (o_v (x_ix ix_any s_ix (o_var (i := 0) rfl (by first | exact Or.inl rfl | exact Or.inr (Or.inl rfl) | exact Or.inr (Or.inr rfl))) (o_v x_int) (fun _ _ => rfl))) (o_v x_int) (nomark _)) (xb_cons (xs_set (i := 2) nd rfl (by first | exact Or.inl rfl | exact Or.inr rfl) (x_bin op_mod s_mod (o_v (x_biT call_int1 s_int1 (by rfl) T.m_int b_int (xa_cons (o_v (x_ix ix_any s_ix (o_var (i := 0) rfl (by first | exact Or.inl rfl | exact Or.inr (Or.inl rfl) | exact Or.inr (Or.inr rfl))) (o_v x_int) (fun _ _ => rfl))) xa_nil))) (o_var (i := 1) rfl (by first | exact Or.inl rfl | exact Or.inr (Or.inl rfl) | exact Or.inr (Or.inr rfl))))) (xb_cons (xs_setIx (i := 0) (pe_var (i := 0) rfl (by first | exact Or.inl rfl | exact Or.inr (Or.inl rfl) | exact Or.inr (Or.inr rfl))) (o_v x_int) (o_v (x_bin op_fdivA s_fdiv (o_v (x_ix ix_any s_ix (o_var (i := 0) rfl (by first | exact Or.inl rfl | exact Or.inr (Or.inl rfl) | exact Or.inr (Or.inr rfl))) (o_v x_int) (fun _ _ => rfl))) (o_var (i := 1) rfl (by first | exact Or.inl rfl | exact Or.inr (Or.inl rfl) | exact Or.inr (Or.inr rfl)))))) (xb_one (xs_ret (x_var (i := 2) rfl (by first | exact Or.inl rfl | exact Or.inr (Or.inl rfl) | exact Or.inr (Or.inr rfl))))))) xb_nil) (xb_cons (xs_setIx (i := 0) (pe_var (i := 0) rfl (by first | exact Or.inl rfl | exact Or.inr (Or.inl rfl) | exact Or.inr (Or.inr rfl))) (o_v x_int) (o_v (x_bin op_addA s_add (o_v (x_ix ix_any s_ix (o_var (i := 0) rfl (by first | exact Or.inl rfl | exact Or.inr (Or.inl rfl) | exact Or.inr (Or.inr rfl))) (o_v x_int) (fun _ _ => rfl))) (o_v x_int)))) (xb_cons (xs_if (x_cmpT op_gt s_gt (o_v (x_ix ix_any s_ix (o_var (i := 0) rfl (by first | exact Or.inl rfl | exact Or.inr (Or.inl rfl) | exact Or.inr (Or.inr rfl))) (o_v x_int) (fun _ _ => rfl))) (o_v (x_biB call_len_seq s_len (by rfl) T.m_len b_len (xa_cons (o_v (x_ix ix_any s_ix (o_var (i := 0) rfl (by first | exact Or.inl rfl | exact Or.inr (Or.inl rfl) | exact Or.inr (Or.inr rfl))) (o_v x_int) (fun _ _ => rfl))) xa_nil))) (nomark _)) (xb_cons (xs_setIx (i := 0) (pe_var (i := 0) rfl (by first | exact Or.inl rfl | exact Or.inr (Or.inl rfl) | exact Or.inr (Or.inr rfl))) (o_v x_int) (o_v (x_bin op_mod s_mod (o_v (x_biT call_int1 s_int1 (by rfl) T.m_int b_int (xa_cons (o_v (x_bin op_addA s_add (o_v (x_bin op_mulA s_mul (o_v (x_ix ix_any s_ix (o_var (i := 0) rfl (by first | exact Or.inl rfl | exact Or.inr (Or.inl rfl) | exact Or.inr (Or.inr rfl))) (o_v x_int) (fun _ _ => rfl))) (o_v x_int))) (o_v x_int))) xa_nil))) (o_v x_int)))) (xb_one (xs_ret (x_bin op_mod s_mod (o_v (x_biT call_int1 s_int1 (by rfl) T.m_int b_int (xa_cons (o_v (x_bin op_fdivA s_fdiv (o_v (x_ix ix_any s_ix (o_var (i := 0) rfl (by first | exact Or.inl rfl | exact Or.inr (Or.inl rfl) | exact Or.inr (Or.inr rfl))) (o_v x_int) (fun _ _ => rfl))) (o_v x_int))) xa_nil))) (o_var (i := 1) rfl (by first | exact Or.inl rfl | exact Or.inr (Or.inl rfl) | exact Or.inr (Or.inr rfl))))))) xb_nil) (xb_cons (xs_set (i := 3) nd rfl (by first | exact Or.inl rfl | exact Or.inr rfl) (x_ix ix_any s_ix (o_v (x_ix ix_any s_ix (o_var (i := 0) rfl (by first | exact Or.inl rfl | exact Or.inr (Or.inl rfl) | exact Or.inr (Or.inr rfl))) (o_v x_int) (fun _ _ => rfl))) (o_v (x_bin op_sub s_sub (o_v (x_ix ix_any s_ix (o_var (i := 0) rfl (by first | exact Or.inl rfl | exact Or.inr (Or.inl rfl) | exact Or.inr (Or.inr rfl))) (o_v x_int) (fun _ _ => rfl))) (o_v x_int))) (fun _ _ => rfl))) (xb_cons (xs_setIx (i := 0) (pe_var (i := 0) rfl (by first | exact Or.inl rfl | exact Or.inr (Or.inl rfl) | exact Or.inr (Or.inr rfl))) (o_v x_int) (o_v (x_bin op_mod s_mod (o_v (x_biT call_int1 s_int1 (by rfl) T.m_int b_int (xa_cons (o_v (x_bin op_addA s_add (o_v (x_bin op_addA s_add (o_v (x_bin op_mulA s_mul (o_v (x_ix ix_any s_ix (o_var (i := 0) rfl (by first | exact Or.inl rfl | exact Or.inr (Or.inl rfl) | exact Or.inr (Or.inr rfl))) (o_v x_int) (fun _ _ => rfl))) (o_v x_int))) (o_var (i := 3) rfl (by first | exact Or.inl rfl | exact Or.inr (Or.inl rfl) | exact Or.inr (Or.inr rfl))))) (o_v x_int))) xa_nil))) (o_v x_int)))) (xb_cons (xs_if (x_cmpT op_ge s_ge (o_var (i := 3) rfl (by first | exact Or.inl rfl | exact Or.inr (Or.inl rfl) | exact Or.inr (Or.inr rfl))) (o_v (x_bin op_pow s_pow (o_v x_int) (o_v x_int))) (nomark _)) (xb_one (xs_setIx (i := 0) (pe_var (i := 0) rfl (by first | exact Or.inl rfl | exact Or.inr (Or.inl rfl) | exact Or.inr (Or.inr rfl))) (o_v x_int) (o_v (x_bin op_fdivA s_fdiv (o_var (i := 3) rfl (by first | exact Or.inl rfl | exact Or.inr (Or.inl rfl) | exact Or.inr (Or.inr rfl))) (o_var (i := 1) rfl (by first | exact Or.inl rfl | exact Or.inr (Or.inl rfl) | exact Or.inr (Or.inr rfl))))))) xb_nil) (xb_one (xs_ret (x_bin op_mod s_mod (o_v (x_biT call_int1 s_int1 (by rfl) T.m_int b_int (xa_cons (o_var (i := 3) rfl (by first | exact Or.inl rfl | exact Or.inr (Or.inl rfl) | exact Or.inr (Or.inr rfl))) xa_nil))) (o_var (i := 1) rfl (by first | exact Or.inl rfl | exact Or.inr (Or.inl rfl) | exact Or.inr (Or.inr rfl))))))))))))
theorem ok__law_pick (T : Tx K mg fd) {n : Nat} (I : Ih P w K mg base fd n) : FnOk P w K mg base CX0 (n + 1) (He.ga K "_law_pick") (fd 21) P__law_pick (spI K (run (n + 1) "_law_pick")) := by
  have nd := sc__law_pick.nd
  rw [run__law_pick]
  refine T.f__law_pick.ok sc__law_pick (fun vs H Q E h => spI_len rfl h) (fun cdv A outer s H vs Q E hr h => ⟨kS K (F__law_pick (run n)).body, PSs.nox ?_, fn_read rfl (show (2 : Nat) ≤ 2 by decide) h⟩)
  exact (xb_one (xs_ret (x_ix ix_any s_ix (o_var (i := 1) rfl (by first | exact Or.inl rfl | exact Or.inr (Or.inl rfl) | exact Or.inr (Or.inr rfl))) (o_v (x_callR (i := 0) I.i__law_taken hr (by rfl) T.g__law_taken T.k__law_taken T.b__law_taken pass0 (pe_var (i := 0) rfl (by first | exact Or.inl rfl | exact Or.inr (Or.inl rfl) | exact Or.inr (Or.inr rfl))) (xa_cons (o_v (x_biB call_len_seq s_len (by rfl) T.m_len b_len (xa_cons (o_var (i := 1) rfl (by first | exact Or.inl rfl | exact Or.inr (Or.inl rfl) | exact Or.inr (Or.inr rfl))) xa_nil))) xa_nil))) (fun _ _ => rfl))))
theorem ok__law_prime (T : Tx K mg fd) {n : Nat} (I : Ih P w K mg base fd n) : FnOk P w K mg base CX0 (n + 1) (He.ga K "_law_prime") (fd 22) P__law_prime (spI K (run (n + 1) "_law_prime")) := by
  have nd := sc__law_prime.nd
  rw [run__law_prime]
  refine T.f__law_prime.ok sc__law_prime (fun vs H Q E h => spI_len rfl h) (fun cdv A outer s H vs Q E hr h => ⟨kS K (F__law_prime (run n)).body, PSs.nox ?_, fn_read rfl (show (1 : Nat) ≤ 1 by decide) h⟩)
  exact (xb_one (xs_ret (x_callR (i := 0) I.i__law_pick hr (by rfl) T.g__law_pick T.k__law_pick T.b__law_pick pass0 (pe_var (i := 0) rfl (by first | exact Or.inl rfl | exact Or.inr (Or.inl rfl) | exact Or.inr (Or.inr rfl))) (xa_cons (o_v (x_lst (xa_cons (o_v x_int) (xa_cons (o_v x_int) (xa_cons (o_v x_int) (xa_cons (o_v x_int) (xa_cons (o_v x_int) xa_nil))))))) xa_nil))))
theorem ok__law_taps (T : Tx K mg fd) {n : Nat} (I : Ih P w K mg base fd n) : FnOk P w K mg base CX0 (n + 1) (He.ga K "_law_taps") (fd 23) P__law_taps (spI K (run (n + 1) "_law_taps")) := by
  have nd := sc__law_taps.nd
  rw [run__law_taps]
  refine T.f__law_taps.ok sc__law_taps (fun vs H Q E h => spI_len rfl h) (fun cdv A outer s H vs Q E hr h => ⟨kS K (F__law_taps (run n)).body, PSs.nox ?_, fn_read rfl (show (3 : Nat) ≤ 6 by decide) h⟩)
  exact (xb_cons (xs_set (i := 3) nd rfl (by first | exact Or.inl rfl | exact Or.inr rfl) (x_callR (i := 0) I.i__law_taken hr (by rfl) T.g__law_taken T.k__law_taken T.b__law_taken pass0 (pe_var (i := 0) rfl (by first | exact Or.inl rfl | exact Or.inr (Or.inl rfl) | exact Or.inr (Or.inr rfl))) (xa_cons (o_v (x_bin op_addA s_add (o_var (i := 2) rfl (by first | exact Or.inl rfl | exact Or.inr (Or.inl rfl) | exact Or.inr (Or.inr rfl))) (o_v x_int))) xa_nil))) (xb_cons (xs_set (i := 4) nd rfl (by first | exact Or.inl rfl | exact Or.inr rfl) (x_biT call_tuple_of s_tupO (by rfl) T.m_tuple b_tuple (xa_cons (o_v (x_lc (own := [("at", 5)]) rfl nd (xi_range1 (by rfl) T.m_range (o_var (i := 3) rfl (by first | exact Or.inl rfl | exact Or.inr (Or.inl rfl) | exact Or.inr (Or.inr rfl)))) (blkOk_by (own := [("at", 5)]) (N := N__law_taps) (sc := defScope (topS 42)) (by decide +kernel)) gs_nm (by simp [Tg.slots]) (fun _ _ _ _ _ => pg_name (i := 5) nd rfl (by first | exact Or.inl rfl | exact Or.inr rfl)) (fun _ _ _ _ _ => xts_nil) (fun _ _ _ _ _ => (x_callR (i := 0) I.i__law_taken hr (by rfl) T.g__law_taken T.k__law_taken T.b__law_taken pass0 (pe_var (i := 0) rfl (by first | exact Or.inl rfl | exact Or.inr (Or.inl rfl) | exact Or.inr (Or.inr rfl))) (xa_cons (o_var (i := 1) rfl (by first | exact Or.inl rfl | exact Or.inr (Or.inl rfl) | exact Or.inr (Or.inr rfl))) xa_nil))))) xa_nil))) (xb_one (xs_ret (x_tup (xa_cons (o_var (i := 4) rfl (by first | exact Or.inl rfl | exact Or.inr (Or.inl rfl) | exact Or.inr (Or.inr rfl))) (xa_cons (o_v (x_biT call_tuple_of s_tupO (by rfl) T.m_tuple b_tuple (xa_cons (o_v (x_lc (own := [("at", 5)]) rfl nd (xi_range1 (by rfl) T.m_range (o_var (i := 3) rfl (by first | exact Or.inl rfl | exact Or.inr (Or.inl rfl) | exact Or.inr (Or.inr rfl)))) (blkOk_by (own := [("at", 5)]) (N := N__law_taps) (sc := defScope (topS 42)) (by decide +kernel)) gs_nm (by simp [Tg.slots]) (fun _ _ _ _ _ => pg_name (i := 5) nd rfl (by first | exact Or.inl rfl | exact Or.inr rfl)) (fun _ _ _ _ _ => xts_nil) (fun _ _ _ _ _ => (x_callR (i := 0) I.i__law_taken hr (by rfl) T.g__law_taken T.k__law_taken T.b__law_taken pass0 (pe_var (i := 0) rfl (by first | exact Or.inl rfl | exact Or.inr (Or.inl rfl) | exact Or.inr (Or.inr rfl))) (xa_cons (o_var (i := 1) rfl (by first | exact Or.inl rfl | exact Or.inr (Or.inl rfl) | exact Or.inr (Or.inr rfl))) xa_nil))))) xa_nil))) xa_nil)))))))
theorem ok__law_alike (T : Tx K mg fd) {n : Nat} (I : Ih P w K mg base fd n) : FnOk P w K mg base CX0 (n + 1) (He.ga K "_law_alike") (fd 24) P__law_alike (spI K (run (n + 1) "_law_alike")) := by
  have nd := sc__law_alike.nd
  rw [run__law_alike]
  refine T.f__law_alike.ok sc__law_alike (fun vs H Q E h => spI_len rfl h) (fun cdv A outer s H vs Q E hr h => ⟨kS K (F__law_alike (run n)).body, PSs.nox ?_, fn_read rfl (show (2 : Nat) ≤ 3 by decide) h⟩)
  exact (xb_cons (xs_if (x_truth (o_v (x_isiT (by simp) (by decide) (o_var (i := 1) rfl (by first | exact Or.inl rfl | exact Or.inr (Or.inl rfl) | exact Or.inr (Or.inr rfl))) (by rfl) T.m_isinstance b_isinstance (xty_cons (t := .tuple) (by rfl) T.m_tuple b_tuple (xty_cons (t := .list) (by rfl) T.m_list b_list xty_nil)))) (fun _ => rfl)) (xb_cons (xs_if (PW.pt (x_or (x_not (x_truth (o_v (x_isiT (by simp) (by decide) (o_var (i := 0) rfl (by first | exact Or.inl rfl | exact Or.inr (Or.inl rfl) | exact Or.inr (Or.inr rfl))) (by rfl) T.m_isinstance b_isinstance (xty_cons (t := .tuple) (by rfl) T.m_tuple b_tuple (xty_cons (t := .list) (by rfl) T.m_list b_list xty_nil)))) (fun _ => rfl))) (pw_or1 (x_cmpT (op_neD hr.units) s_ne (o_v (x_isi1 (t := .list) (o_var (i := 0) rfl (by first | exact Or.inl rfl | exact Or.inr (Or.inl rfl) | exact Or.inr (Or.inr rfl))) (by rfl) T.m_isinstance b_isinstance (by rfl) T.m_list b_list)) (o_v (x_isi1 (t := .list) (o_var (i := 1) rfl (by first | exact Or.inl rfl | exact Or.inr (Or.inl rfl) | exact Or.inr (Or.inr rfl))) (by rfl) T.m_isinstance b_isinstance (by rfl) T.m_list b_list)) (nomark _))))) (xb_one (xs_ret x_bl)) xb_nil) (xb_cons (xs_if (x_cmpT (op_neD hr.units) s_ne (o_v (x_biB call_len_seq s_len (by rfl) T.m_len b_len (xa_cons (o_var (i := 0) rfl (by first | exact Or.inl rfl | exact Or.inr (Or.inl rfl) | exact Or.inr (Or.inr rfl))) xa_nil))) (o_v (x_biB call_len_seq s_len (by rfl) T.m_len b_len (xa_cons (o_var (i := 1) rfl (by first | exact Or.inl rfl | exact Or.inr (Or.inl rfl) | exact Or.inr (Or.inr rfl))) xa_nil))) (nomark _)) (xb_one (xs_ret x_bl)) xb_nil) (xb_one (xs_ret (x_cmp (op_eqD hr.units) s_eq (o_v (x_lc (own := [("k", 2)]) rfl nd (xi_range1 (by rfl) T.m_range (o_v (x_biB call_len_seq s_len (by rfl) T.m_len b_len (xa_cons (o_var (i := 1) rfl (by first | exact Or.inl rfl | exact Or.inr (Or.inl rfl) | exact Or.inr (Or.inr rfl))) xa_nil)))) (blkOk_by (own := [("k", 2)]) (N := N__law_alike) (sc := defScope (topS 43)) (by decide +kernel)) gs_nm (by simp [Tg.slots]) (fun _ _ _ _ _ => pg_name (i := 2) nd rfl (by first | exact Or.inl rfl | exact Or.inr rfl)) (fun _ _ _ _ _ => (xts_one (x_not (x_truth (o_v (x_call I.i__law_alike hr (by rfl) T.g__law_alike T.k__law_alike T.b__law_alike pass0 (xa_cons (o_v (x_ix ix_any s_ix (o_var (i := 0) rfl (by first | exact Or.inl rfl | exact Or.inr (Or.inl rfl) | exact Or.inr (Or.inr rfl))) (o_var (i := 2) rfl (by first | exact Or.inl rfl | exact Or.inr (Or.inl rfl) | exact Or.inr (Or.inr rfl))) (fun _ _ => rfl))) (xa_cons (o_v (x_ix ix_any s_ix (o_var (i := 1) rfl (by first | exact Or.inl rfl | exact Or.inr (Or.inl rfl) | exact Or.inr (Or.inr rfl))) (o_var (i := 2) rfl (by first | exact Or.inl rfl | exact Or.inr (Or.inl rfl) | exact Or.inr (Or.inr rfl))) (fun _ _ => rfl))) xa_nil)))) (fun _ => rfl))))) (fun _ _ _ _ _ => (x_var (i := 2) rfl (by first | exact Or.inl rfl | exact Or.inr (Or.inl rfl) | exact Or.inr (Or.inr rfl)))))) (o_v (x_lst xa_nil)) (nomark _)))))) xb_nil) (xb_cons (xs_if (PW.pt (x_or (x_isNT (o_var (i := 1) rfl (by first | exact Or.inl rfl | exact Or.inr (Or.inl rfl) | exact Or.inr (Or.inr rfl)))) (pw_or1 (x_truth (o_v (x_isi1 (t := .str) (o_var (i := 1) rfl (by first | exact Or.inl rfl | exact Or.inr (Or.inl rfl) | exact Or.inr (Or.inr rfl))) (by rfl) T.m_isinstance b_isinstance (by rfl) T.m_str b_str)) (fun _ => rfl))))) (xb_one (xs_ret (x_andV (x_cmp (op_eqD hr.units) s_eq (o_var (i := 0) rfl (by first | exact Or.inl rfl | exact Or.inr (Or.inl rfl) | exact Or.inr (Or.inr rfl))) (o_var (i := 1) rfl (by first | exact Or.inl rfl | exact Or.inr (Or.inl rfl) | exact Or.inr (Or.inr rfl))) (nomark _)) (pe_one (x_cmp (op_eqD hr.units) s_eq (o_v (x_isi1 (t := .str) (o_var (i := 0) rfl (by first | exact Or.inl rfl | exact Or.inr (Or.inl rfl) | exact Or.inr (Or.inr rfl))) (by rfl) T.m_isinstance b_isinstance (by rfl) T.m_str b_str)) (o_v (x_isi1 (t := .str) (o_var (i := 1) rfl (by first | exact Or.inl rfl | exact Or.inr (Or.inl rfl) | exact Or.inr (Or.inr rfl))) (by rfl) T.m_isinstance b_isinstance (by rfl) T.m_str b_str)) (nomark _)))))) xb_nil) (xb_one (xs_ret (x_andV (x_isi1 (t := .int) (o_var (i := 0) rfl (by first | exact Or.inl rfl | exact Or.inr (Or.inl rfl) | exact Or.inr (Or.inr rfl))) (by rfl) T.m_isinstance b_isinstance (by rfl) T.m_int b_int) (x_andV (x_cmp (op_eqD hr.units) s_eq (o_v (x_isi1 (t := .bool) (o_var (i := 0) rfl (by first | exact Or.inl rfl | exact Or.inr (Or.inl rfl) | exact Or.inr (Or.inr rfl))) (by rfl) T.m_isinstance b_isinstance (by rfl) T.m_bool b_bool)) (o_v (x_isi1 (t := .bool) (o_var (i := 1) rfl (by first | exact Or.inl rfl | exact Or.inr (Or.inl rfl) | exact Or.inr (Or.inr rfl))) (by rfl) T.m_isinstance b_isinstance (by rfl) T.m_bool b_bool)) (nomark _)) (pe_one (x_cmp (op_eqD hr.units) s_eq (o_var (i := 0) rfl (by first | exact Or.inl rfl | exact Or.inr (Or.inl rfl) | exact Or.inr (Or.inr rfl))) (o_var (i := 1) rfl (by first | exact Or.inl rfl | exact Or.inr (Or.inl rfl) | exact Or.inr (Or.inr rfl))) (nomark _)))))))))
theorem ok__law_carried (T : Tx K mg fd) {n : Nat} (I : Ih P w K mg base fd n) : FnOk P w K mg base CX0 (n + 1) (He.ga K "_law_carried") (fd 25) P__law_carried (spI K (run (n + 1) "_law_carried")) := by
  have nd := sc__law_carried.nd
  rw [run__law_carried]
  refine T.f__law_carried.ok sc__law_carried (fun vs H Q E h => spI_len rfl h) (fun cdv A outer s H vs Q E hr h => ⟨kS K (F__law_carried (run n)).body, PSs.nox ?_, fn_read rfl (show (5 : Nat) ≤ 9 by decide) h⟩)
  exact (xb_cons (xs_set (i := 5) nd rfl (by first | exact Or.inl rfl | exact Or.inr rfl) (x_biT call_list_of s_lstO (by rfl) T.m_list b_list (xa_cons (o_var (i := 2) rfl (by first | exact Or.inl rfl | exact Or.inr (Or.inl rfl) | exact Or.inr (Or.inr rfl))) xa_nil))) (xb_cons (x_for PassesOwn.never rfl (xi_range2 (by rfl) T.m_range (o_v (x_biB call_len_seq s_len (by rfl) T.m_len b_len (xa_cons (o_var (i := 1) rfl (by first | exact Or.inl rfl | exact Or.inr (Or.inl rfl) | exact Or.inr (Or.inr rfl))) xa_nil))) (o_var (i := 4) rfl (by first | exact Or.inl rfl | exact Or.inr (Or.inl rfl) | exact Or.inr (Or.inr rfl)))) (pg_name (i := 6) nd rfl (by first | exact Or.inl rfl | exact Or.inr rfl)) gs_nm (xb_cons (xs_set (i := 7) nd rfl (by first | exact Or.inl rfl | exact Or.inr rfl) (x_bin op_addA s_add (o_var (i := 3) rfl (by first | exact Or.inl rfl | exact Or.inr (Or.inl rfl) | exact Or.inr (Or.inr rfl))) (o_v (x_biB (cr_sum2 rfl) s_sum2 (by rfl) T.m_sum b_sum (xa_cons (o_v (x_lc (own := [("k", 8)]) rfl nd (xi_range1 (by rfl) T.m_range (o_v (x_biB call_len_seq s_len (by rfl) T.m_len b_len (xa_cons (o_var (i := 1) rfl (by first | exact Or.inl rfl | exact Or.inr (Or.inl rfl) | exact Or.inr (Or.inr rfl))) xa_nil)))) (blkOk_by (own := [("k", 8)]) (N := N__law_carried) (sc := defScope (topS 44)) (by decide +kernel)) gs_nm (by simp [Tg.slots]) (fun _ _ _ _ _ => pg_name (i := 8) nd rfl (by first | exact Or.inl rfl | exact Or.inr rfl)) (fun _ _ _ _ _ => xts_nil) (fun _ _ _ _ _ => (x_bin op_mulA s_mul (o_v (x_ix ix_any s_ix (o_var (i := 1) rfl (by first | exact Or.inl rfl | exact Or.inr (Or.inl rfl) | exact Or.inr (Or.inr rfl))) (o_var (i := 8) rfl (by first | exact Or.inl rfl | exact Or.inr (Or.inl rfl) | exact Or.inr (Or.inr rfl))) (fun _ _ => rfl))) (o_v (x_ix ix_any s_ix (o_var (i := 5) rfl (by first | exact Or.inl rfl | exact Or.inr (Or.inl rfl) | exact Or.inr (Or.inr rfl))) (o_v (x_bin op_sub s_sub (o_v (x_bin op_sub s_sub (o_var (i := 6) rfl (by first | exact Or.inl rfl | exact Or.inr (Or.inl rfl) | exact Or.inr (Or.inr rfl))) (o_v x_int))) (o_var (i := 8) rfl (by first | exact Or.inl rfl | exact Or.inr (Or.inl rfl) | exact Or.inr (Or.inr rfl))))) (fun _ _ => rfl))))))) xa_nil))))) (xb_cons (xs_app (i := 5) (pe_var (i := 5) rfl (by first | exact Or.inl rfl | exact Or.inr (Or.inl rfl) | exact Or.inr (Or.inr rfl))) (x_bin op_mod s_mod (o_v (x_biT call_int1 s_int1 (by rfl) T.m_int b_int (xa_cons (o_var (i := 7) rfl (by first | exact Or.inl rfl | exact Or.inr (Or.inl rfl) | exact Or.inr (Or.inr rfl))) xa_nil))) (o_var (i := 0) rfl (by first | exact Or.inl rfl | exact Or.inr (Or.inl rfl) | exact Or.inr (Or.inr rfl))))) (xb_one (xs_set (i := 3) nd rfl (by first | exact Or.inl rfl | exact Or.inr rfl) (x_bin op_fdivA s_fdiv (o_var (i := 7) rfl (by first | exact Or.inl rfl | exact Or.inr (Or.inl rfl) | exact Or.inr (Or.inr rfl))) (o_var (i := 0) rfl (by first | exact Or.inl rfl | exact Or.inr (Or.inl rfl) | exact Or.inr (Or.inr rfl))))))))) (xb_one (xs_ret (x_biT call_tuple_of s_tupO (by rfl) T.m_tuple b_tuple (xa_cons (o_v (x_sl (o_var (i := 5) rfl (by first | exact Or.inl rfl | exact Or.inr (Or.inl rfl) | exact Or.inr (Or.inr rfl))) xp_none (xp_some (o_var (i := 4) rfl (by first | exact Or.inl rfl | exact Or.inr (Or.inl rfl) | exact Or.inr (Or.inr rfl)))))) xa_nil))))))
theorem ok__law_worth (T : Tx K mg fd) {n : Nat} (I : Ih P w K mg base fd n) : FnOk P w K mg base CX0 (n + 1) (He.ga K "_law_worth") (fd 26) P__law_worth (spI K (run (n + 1) "_law_worth")) := by
  have nd := sc__law_worth.nd
  rw [run__law_worth]
  refine T.f__law_worth.ok sc__law_worth (fun vs H Q E h => spI_len rfl h) (fun cdv A outer s H vs Q E hr h => ⟨kS K (F__law_worth (run n)).body, PSs.nox ?_, fn_read rfl (show (2 : Nat) ≤ 4 by decide) h⟩)
  exact (xb_cons (xs_set (i := 2) nd rfl (by first | exact Or.inl rfl | exact Or.inr rfl) x_int) (xb_cons (x_for PassesOwn.never rfl (xi_seq (o_v (x_rev (o_var (i := 1) rfl (by first | exact Or.inl rfl | exact Or.inr (Or.inl rfl) | exact Or.inr (Or.inr rfl)))))) (pg_name (i := 3) nd rfl (by first | exact Or.inl rfl | exact Or.inr rfl)) gs_nm (xb_one (xs_set (i := 2) nd rfl (by first | exact Or.inl rfl | exact Or.inr rfl) (x_bin op_addA s_add (o_v (x_bin op_mulA s_mul (o_var (i := 2) rfl (by first | exact Or.inl rfl | exact Or.inr (Or.inl rfl) | exact Or.inr (Or.inr rfl))) (o_var (i := 0) rfl (by first | exact Or.inl rfl | exact Or.inr (Or.inl rfl) | exact Or.inr (Or.inr rfl))))) (o_var (i := 3) rfl (by first | exact Or.inl rfl | exact Or.inr (Or.inl rfl) | exact Or.inr (Or.inr rfl))))))) (xb_one (xs_ret (x_var (i := 2) rfl (by first | exact Or.inl rfl | exact Or.inr (Or.inl rfl) | exact Or.inr (Or.inr rfl)))))))
theorem ok__law_shared (T : Tx K mg fd) {n : Nat} (I : Ih P w K mg base fd n) : FnOk P w K mg base CX0 (n + 1) (He.ga K "_law_shared") (fd 27) P__law_shared (spI K (run (n + 1) "_law_shared")) := by
  have nd := sc__law_shared.nd
  rw [run__law_shared]
  refine T.f__law_shared.ok sc__law_shared (fun vs H Q E h => spI_len rfl h) (fun cdv A outer s H vs Q E hr h => ⟨kS K (F__law_shared (run n)).body, PSs.nox ?_, fn_read rfl (show (2 : Nat) ≤ 3 by decide) h⟩)
  exact (xb_cons (xs_par (i := 0) (j := 1) rfl nd rfl rfl (by decide) rfl rfl (x_biB call_abs s_abs (by rfl) T.m_abs b_abs (xa_cons (o_var (i := 0) rfl (by first | exact Or.inl rfl | exact Or.inr (Or.inl rfl) | exact Or.inr (Or.inr rfl))) xa_nil)) (x_biB call_abs s_abs (by rfl) T.m_abs b_abs (xa_cons (o_var (i := 1) rfl (by first | exact Or.inl rfl | exact Or.inr (Or.inl rfl) | exact Or.inr (Or.inr rfl))) xa_nil)) (by rfl)) (xb_cons (x_for PassesOwn.never rfl (xi_range1 (by rfl) T.m_range (o_v x_int)) (pg_name (i := 2) nd rfl (by first | exact Or.inl rfl | exact Or.inr rfl)) gs_nm (xb_cons (xs_if (x_cmpT (op_eqD hr.units) s_eq (o_var (i := 1) rfl (by first | exact Or.inl rfl | exact Or.inr (Or.inl rfl) | exact Or.inr (Or.inr rfl))) (o_v x_int) (nomark _)) (xb_one (xs_ret (x_var (i := 0) rfl (by first | exact Or.inl rfl | exact Or.inr (Or.inl rfl) | exact Or.inr (Or.inr rfl))))) xb_nil) (xb_one (xs_par (i := 0) (j := 1) rfl nd rfl rfl (by decide) rfl rfl (x_var (i := 1) rfl (by first | exact Or.inl rfl | exact Or.inr (Or.inl rfl) | exact Or.inr (Or.inr rfl))) (x_bin op_mod s_mod (o_v (x_biT call_int1 s_int1 (by rfl) T.m_int b_int (xa_cons (o_var (i := 0) rfl (by first | exact Or.inl rfl | exact Or.inr (Or.inl rfl) | exact Or.inr (Or.inr rfl))) xa_nil))) (o_var (i := 1) rfl (by first | exact Or.inl rfl | exact Or.inr (Or.inl rfl) | exact Or.inr (Or.inr rfl)))) (by rfl))))) (xb_one (xs_ret (x_var (i := 0) rfl (by first | exact Or.inl rfl | exact Or.inr (Or.inl rfl) | exact Or.inr (Or.inr rfl)))))))
theorem ok__law_lowest_of (T : Tx K mg fd) {n : Nat} (I : Ih P w K mg base fd n) : FnOk P w K mg base CX0 (n + 1) (He.ga K "_law_lowest_of") (fd 28) P__law_lowest_of (spI K (run (n + 1) "_law_lowest_of")) := by
  have nd := sc__law_lowest_of.nd
  rw [run__law_lowest_of]
  refine T.f__law_lowest_of.ok sc__law_lowest_of (fun vs H Q E h => spI_len rfl h) (fun cdv A outer s H vs Q E hr h => ⟨kS K (F__law_lowest_of (run n)).body, PSs.nox ?_, fn_read rfl (show (2 : Nat) ≤ 3 by decide) h⟩)
  exact (xb_cons (xs_set (i := 2) nd rfl (by first | exact Or.inl rfl | exact Or.inr rfl) (x_ite (x_cmpT op_gt s_gt (o_var (i := 1) rfl (by first | exact Or.inl rfl | exact Or.inr (Or.inl rfl) | exact Or.inr (Or.inr rfl))) (o_v x_int) (nomark _)) (x_call I.i__law_shared hr (by rfl) T.g__law_shared T.k__law_shared T.b__law_shared pass0 (xa_cons (o_var (i := 0) rfl (by first | exact Or.inl rfl | exact Or.inr (Or.inl rfl) | exact Or.inr (Or.inr rfl))) (xa_cons (o_var (i := 1) rfl (by first | exact Or.inl rfl | exact Or.inr (Or.inl rfl) | exact Or.inr (Or.inr rfl))) xa_nil))) (x_bin op_sub s_sub (o_v x_int) (o_v (x_call I.i__law_shared hr (by rfl) T.g__law_shared T.k__law_shared T.b__law_shared pass0 (xa_cons (o_var (i := 0) rfl (by first | exact Or.inl rfl | exact Or.inr (Or.inl rfl) | exact Or.inr (Or.inr rfl))) (xa_cons (o_var (i := 1) rfl (by first | exact Or.inl rfl | exact Or.inr (Or.inl rfl) | exact Or.inr (Or.inr rfl))) xa_nil))))))) (xb_one (xs_ret (x_tup (xa_cons (o_v (x_bin op_fdivA s_fdiv (o_var (i := 0) rfl (by first | exact Or.inl rfl | exact Or.inr (Or.inl rfl) | exact Or.inr (Or.inr rfl))) (o_var (i := 2) rfl (by first | exact Or.inl rfl | exact Or.inr (Or.inl rfl) | exact Or.inr (Or.inr rfl))))) (xa_cons (o_v (x_bin op_fdivA s_fdiv (o_var (i := 1) rfl (by first | exact Or.inl rfl | exact Or.inr (Or.inl rfl) | exact Or.inr (Or.inr rfl))) (o_var (i := 2) rfl (by first | exact Or.inl rfl | exact Or.inr (Or.inl rfl) | exact Or.inr (Or.inr rfl))))) xa_nil))))))
theorem ok__law_whole_power (T : Tx K mg fd) {n : Nat} (I : Ih P w K mg base fd n) : FnOk P w K mg base CX0 (n + 1) (He.ga K "_law_whole_power") (fd 29) P__law_whole_power (spI K (run (n + 1) "_law_whole_power")) := by
  have nd := sc__law_whole_power.nd
  rw [run__law_whole_power]
  refine T.f__law_whole_power.ok sc__law_whole_power (fun vs H Q E h => spI_len rfl h) (fun cdv A outer s H vs Q E hr h => ⟨kS K (F__law_whole_power (run n)).body, PSs.nox ?_, fn_read rfl (show (2 : Nat) ≤ 4 by decide) h⟩)
  exact (xb_cons (xs_set (i := 2) nd rfl (by first | exact Or.inl rfl | exact Or.inr rfl) x_int) (xb_cons (x_for PassesOwn.never rfl (xi_range1 (by rfl) T.m_range (o_var (i := 1) rfl (by first | exact Or.inl rfl | exact Or.inr (Or.inl rfl) | exact Or.inr (Or.inr rfl)))) (pg_name (i := 3) nd rfl (by first | exact Or.inl rfl | exact Or.inr rfl)) gs_nm (xb_one (xs_set (i := 2) nd rfl (by first | exact Or.inl rfl | exact Or.inr rfl) (x_bin op_mulA s_mul (o_var (i := 2) rfl (by first | exact Or.inl rfl | exact Or.inr (Or.inl rfl) | exact Or.inr (Or.inr rfl))) (o_var (i := 0) rfl (by first | exact Or.inl rfl | exact Or.inr (Or.inl rfl) | exact Or.inr (Or.inr rfl))))))) (xb_one (xs_ret (x_var (i := 2) rfl (by first | exact Or.inl rfl | exact Or.inr (Or.inl rfl) | exact Or.inr (Or.inr rfl)))))))
theorem ok_law (T : Tx K mg fd) {n : Nat} (I : Ih P w K mg base fd n) : FnOk P w K mg base CX0 (n + 1) (He.ga K "law") (fd 30) P_law (spI K (run (n + 1) "law")) := by
  have nd := sc_law.nd
  rw [run_law]
  refine T.f_law.ok sc_law (fun vs H Q E h => spI_len rfl h) (fun cdv A outer s H vs Q E hr h => ⟨kS K (F_law (run n)).body, PSs.nox ?_, fn_read rfl (show (1 : Nat) ≤ 12 by decide) h⟩)
  exact (xb_cons (xs_set (i := 1) nd rfl (by first | exact Or.inl rfl | exact Or.inr rfl) (x_lst (xa_cons (o_var (i := 0) rfl (by first | exact Or.inl rfl | exact Or.inr (Or.inl rfl) | exact Or.inr (Or.inr rfl))) (xa_cons (o_v x_int) (xa_cons (o_v x_int) (xa_cons (o_v x_int) xa_nil)))))) (xb_cons (xs_set (i := 2) nd rfl (by first | exact Or.inl rfl | exact Or.inr rfl) (x_callR (i := 1) I.i__law_prime hr (by rfl) T.g__law_prime T.k__law_prime T.b__law_prime pass0 (pe_var (i := 1) rfl (by first | exact Or.inl rfl | exact Or.inr (Or.inl rfl) | exact Or.inr (Or.inr rfl))) xa_nil)) (xb_cons (xs_unp (pg_tup rfl (pgs_cons (pg_name (i := 3) nd rfl (by first | exact Or.inl rfl | exact Or.inr rfl)) (pgs_cons (pg_name (i := 4) nd rfl (by first | exact Or.inl rfl | exact Or.inr rfl)) pgs_nil))) rfl (GSs.cons (GSs.cons GSs.nil)) (x_callR (i := 1) I.i__law_taps hr (by rfl) T.g__law_taps T.k__law_taps T.b__law_taps pass0 (pe_var (i := 1) rfl (by first | exact Or.inl rfl | exact Or.inr (Or.inl rfl) | exact Or.inr (Or.inr rfl))) (xa_cons (o_var (i := 2) rfl (by first | exact Or.inl rfl | exact Or.inr (Or.inl rfl) | exact Or.inr (Or.inr rfl))) (xa_cons (o_v (x_ix ix_any s_ix (o_v (x_lst (xa_cons (o_v x_int) (xa_cons (o_v x_int) (xa_cons (o_v x_int) xa_nil))))) (o_v (x_callR (i := 1) I.i__law_taken hr (by rfl) T.g__law_taken T.k__law_taken T.b__law_taken pass0 (pe_var (i := 1) rfl (by first | exact Or.inl rfl | exact Or.inr (Or.inl rfl) | exact Or.inr (Or.inr rfl))) (xa_cons (o_v x_int) xa_nil))) (fun _ _ => rfl))) xa_nil)))) (xb_cons (xs_set (i := 5) nd rfl (by first | exact Or.inl rfl | exact Or.inr rfl) (x_bin op_mulA s_mul (o_v (x_callR (i := 1) I.i__law_taken hr (by rfl) T.g__law_taken T.k__law_taken T.b__law_taken pass0 (pe_var (i := 1) rfl (by first | exact Or.inl rfl | exact Or.inr (Or.inl rfl) | exact Or.inr (Or.inr rfl))) (xa_cons (o_v (x_ix ix_any s_ix (o_v (x_lst (xa_cons (o_v x_int) (xa_cons (o_v x_int) (xa_cons (o_v (x_bin op_pow s_pow (o_v x_int) (o_v x_int))) xa_nil))))) (o_v (x_callR (i := 1) I.i__law_taken hr (by rfl) T.g__law_taken T.k__law_taken T.b__law_taken pass0 (pe_var (i := 1) rfl (by first | exact Or.inl rfl | exact Or.inr (Or.inl rfl) | exact Or.inr (Or.inr rfl))) (xa_cons (o_v x_int) xa_nil))) (fun _ _ => rfl))) xa_nil))) (o_v (x_callR (i := 1) I.i__law_pick hr (by rfl) T.g__law_pick T.k__law_pick T.b__law_pick pass0 (pe_var (i := 1) rfl (by first | exact Or.inl rfl | exact Or.inr (Or.inl rfl) | exact Or.inr (Or.inr rfl))) (xa_cons (o_v (x_lst (xa_cons (o_v x_int) (xa_cons (o_v (x_bin op_sub s_sub (o_v x_int) (o_v x_int))) xa_nil)))) xa_nil))))) (xb_cons (xs_set (i := 6) nd rfl (by first | exact Or.inl rfl | exact Or.inr rfl) (x_callR (i := 1) I.i__law_taken hr (by rfl) T.g__law_taken T.k__law_taken T.b__law_taken pass0 (pe_var (i := 1) rfl (by first | exact Or.inl rfl | exact Or.inr (Or.inl rfl) | exact Or.inr (Or.inr rfl))) (xa_cons (o_v (x_ix ix_any s_ix (o_v (x_lst (xa_cons (o_v x_int) (xa_cons (o_v x_int) (xa_cons (o_v x_int) xa_nil))))) (o_v (x_callR (i := 1) I.i__law_taken hr (by rfl) T.g__law_taken T.k__law_taken T.b__law_taken pass0 (pe_var (i := 1) rfl (by first | exact Or.inl rfl | exact Or.inr (Or.inl rfl) | exact Or.inr (Or.inr rfl))) (xa_cons (o_v x_int) xa_nil))) (fun _ _ => rfl))) xa_nil))) (xb_cons (xs_set (i := 7) nd rfl (by first | exact Or.inl rfl | exact Or.inr rfl) (x_call I.i_carry_run hr (by rfl) T.g_carry_run T.k_carry_run T.b_carry_run pass0 (xa_cons (o_var (i := 2) rfl (by first | exact Or.inl rfl | exact Or.inr (Or.inl rfl) | exact Or.inr (Or.inr rfl))) (xa_cons (o_var (i := 3) rfl (by first | exact Or.inl rfl | exact Or.inr (Or.inl rfl) | exact Or.inr (Or.inr rfl))) (xa_cons (o_var (i := 4) rfl (by first | exact Or.inl rfl | exact Or.inr (Or.inl rfl) | exact Or.inr (Or.inr rfl))) (xa_cons (o_var (i := 5) rfl (by first | exact Or.inl rfl | exact Or.inr (Or.inl rfl) | exact Or.inr (Or.inr rfl))) (xa_cons (o_var (i := 6) rfl (by first | exact Or.inl rfl | exact Or.inr (Or.inl rfl) | exact Or.inr (Or.inr rfl))) xa_nil))))))) (xb_cons (xs_if (x_not (x_truth (o_v (x_call I.i__law_alike hr (by rfl) T.g__law_alike T.k__law_alike T.b__law_alike pass0 (xa_cons (o_var (i := 7) rfl (by first | exact Or.inl rfl | exact Or.inr (Or.inl rfl) | exact Or.inr (Or.inr rfl))) (xa_cons (o_v (x_call I.i__law_carried hr (by rfl) T.g__law_carried T.k__law_carried T.b__law_carried pass0 (xa_cons (o_var (i := 2) rfl (by first | exact Or.inl rfl | exact Or.inr (Or.inl rfl) | exact Or.inr (Or.inr rfl))) (xa_cons (o_var (i := 3) rfl (by first | exact Or.inl rfl | exact Or.inr (Or.inl rfl) | exact Or.inr (Or.inr rfl))) (xa_cons (o_var (i := 4) rfl (by first | exact Or.inl rfl | exact Or.inr (Or.inl rfl) | exact Or.inr (Or.inr rfl))) (xa_cons (o_var (i := 5) rfl (by first | exact Or.inl rfl | exact Or.inr (Or.inl rfl) | exact Or.inr (Or.inr rfl))) (xa_cons (o_var (i := 6) rfl (by first | exact Or.inl rfl | exact Or.inr (Or.inl rfl) | exact Or.inr (Or.inr rfl))) xa_nil))))))) xa_nil)))) (fun _ => rfl))) (xb_one (xs_ret x_bl)) xb_nil) (xb_cons (xs_set (i := 8) nd rfl (by first | exact Or.inl rfl | exact Or.inr rfl) (x_call I.i_carry_fraction hr (by rfl) T.g_carry_fraction T.k_carry_fraction T.b_carry_fraction pass0 (xa_cons (o_var (i := 2) rfl (by first | exact Or.inl rfl | exact Or.inr (Or.inl rfl) | exact Or.inr (Or.inr rfl))) (xa_cons (o_var (i := 3) rfl (by first | exact Or.inl rfl | exact Or.inr (Or.inl rfl) | exact Or.inr (Or.inr rfl))) (xa_cons (o_var (i := 4) rfl (by first | exact Or.inl rfl | exact Or.inr (Or.inl rfl) | exact Or.inr (Or.inr rfl))) (xa_cons (o_var (i := 5) rfl (by first | exact Or.inl rfl | exact Or.inr (Or.inl rfl) | exact Or.inr (Or.inr rfl))) xa_nil)))))) (xb_cons (xs_set (i := 9) nd rfl (by first | exact Or.inl rfl | exact Or.inr rfl) (x_bin op_sub s_sub (o_v (x_call I.i__law_worth hr (by rfl) T.g__law_worth T.k__law_worth T.b__law_worth pass0 (xa_cons (o_var (i := 2) rfl (by first | exact Or.inl rfl | exact Or.inr (Or.inl rfl) | exact Or.inr (Or.inr rfl))) (xa_cons (o_v (x_bin op_addA s_add (o_v (x_tup (xa_cons (o_v x_int) xa_nil))) (o_var (i := 3) rfl (by first | exact Or.inl rfl | exact Or.inr (Or.inl rfl) | exact Or.inr (Or.inr rfl))))) xa_nil)))) (o_v x_int))) (xb_cons (xs_if (PW.pt (x_or (x_not (x_truth (o_v (x_isi1 (t := .tuple) (o_var (i := 8) rfl (by first | exact Or.inl rfl | exact Or.inr (Or.inl rfl) | exact Or.inr (Or.inr rfl))) (by rfl) T.m_isinstance b_isinstance (by rfl) T.m_tuple b_tuple)) (fun _ => rfl))) (x_or (x_cmpT (op_neD hr.units) s_ne (o_v (x_biB call_len_seq s_len (by rfl) T.m_len b_len (xa_cons (o_var (i := 8) rfl (by first | exact Or.inl rfl | exact Or.inr (Or.inl rfl) | exact Or.inr (Or.inr rfl))) xa_nil))) (o_v x_int) (nomark _)) (pw_or1 (x_not (x_truth (o_v (x_call I.i__law_alike hr (by rfl) T.g__law_alike T.k__law_alike T.b__law_alike pass0 (xa_cons (o_var (i := 8) rfl (by first | exact Or.inl rfl | exact Or.inr (Or.inl rfl) | exact Or.inr (Or.inr rfl))) (xa_cons (o_v (x_call I.i__law_lowest_of hr (by rfl) T.g__law_lowest_of T.k__law_lowest_of T.b__law_lowest_of pass0 (xa_cons (o_v (x_ix ix_any s_ix (o_var (i := 8) rfl (by first | exact Or.inl rfl | exact Or.inr (Or.inl rfl) | exact Or.inr (Or.inr rfl))) (o_v x_int) (fun _ _ => rfl))) (xa_cons (o_v (x_ix ix_any s_ix (o_var (i := 8) rfl (by first | exact Or.inl rfl | exact Or.inr (Or.inl rfl) | exact Or.inr (Or.inr rfl))) (o_v x_int) (fun _ _ => rfl))) xa_nil)))) xa_nil)))) (fun _ => rfl))))))) (xb_one (xs_ret x_bl)) xb_nil) (xb_cons (xs_if (PW.pt (x_or (x_cmpT (op_neD hr.units) s_ne (o_v (x_bin op_mod s_mod (o_v (x_biT call_int1 s_int1 (by rfl) T.m_int b_int (xa_cons (o_var (i := 9) rfl (by first | exact Or.inl rfl | exact Or.inr (Or.inl rfl) | exact Or.inr (Or.inr rfl))) xa_nil))) (o_v (x_ix ix_any s_ix (o_var (i := 8) rfl (by first | exact Or.inl rfl | exact Or.inr (Or.inl rfl) | exact Or.inr (Or.inr rfl))) (o_v x_int) (fun _ _ => rfl))))) (o_v x_int) (nomark _)) (x_or (x_cmpT op_gt s_gt (o_v (x_biB call_abs s_abs (by rfl) T.m_abs b_abs (xa_cons (o_v (x_ix ix_any s_ix (o_var (i := 8) rfl (by first | exact Or.inl rfl | exact Or.inr (Or.inl rfl) | exact Or.inr (Or.inr rfl))) (o_v x_int) (fun _ _ => rfl))) xa_nil))) (o_v (x_bin op_pow s_pow (o_v x_int) (o_v x_int))) (nomark _)) (pw_or1 (x_cmpT op_gt s_gt (o_v (x_ix ix_any s_ix (o_var (i := 8) rfl (by first | exact Or.inl rfl | exact Or.inr (Or.inl rfl) | exact Or.inr (Or.inr rfl))) (o_v x_int) (fun _ _ => rfl))) (o_v (x_bin op_pow s_pow (o_v x_int) (o_v x_int))) (nomark _)))))) (xb_one (xs_ret (x_cmp (op_eqD hr.units) s_eq (o_v (x_bin op_mod s_mod (o_v (x_biT call_int1 s_int1 (by rfl) T.m_int b_int (xa_cons (o_var (i := 9) rfl (by first | exact Or.inl rfl | exact Or.inr (Or.inl rfl) | exact Or.inr (Or.inr rfl))) xa_nil))) (o_v (x_ix ix_any s_ix (o_var (i := 8) rfl (by first | exact Or.inl rfl | exact Or.inr (Or.inl rfl) | exact Or.inr (Or.inr rfl))) (o_v x_int) (fun _ _ => rfl))))) (o_v x_int) (nomark _)))) xb_nil) (xb_cons (xs_if (x_cmpT (op_neD hr.units) s_ne (o_v (x_call I.i_fraction_row hr (by rfl) T.g_fraction_row T.k_fraction_row T.b_fraction_row pass0 (xa_cons (o_var (i := 2) rfl (by first | exact Or.inl rfl | exact Or.inr (Or.inl rfl) | exact Or.inr (Or.inr rfl))) (xa_cons (o_var (i := 8) rfl (by first | exact Or.inl rfl | exact Or.inr (Or.inl rfl) | exact Or.inr (Or.inr rfl))) (xa_cons (o_var (i := 6) rfl (by first | exact Or.inl rfl | exact Or.inr (Or.inl rfl) | exact Or.inr (Or.inr rfl))) xa_nil))))) (o_var (i := 7) rfl (by first | exact Or.inl rfl | exact Or.inr (Or.inl rfl) | exact Or.inr (Or.inr rfl))) (nomark _)) (xb_one (xs_ret x_bl)) xb_nil) (xb_cons (xs_set (i := 10) nd rfl (by first | exact Or.inl rfl | exact Or.inr rfl) (x_bin op_addA s_add (o_v (x_biB call_len_seq s_len (by rfl) T.m_len b_len (xa_cons (o_var (i := 3) rfl (by first | exact Or.inl rfl | exact Or.inr (Or.inl rfl) | exact Or.inr (Or.inr rfl))) xa_nil))) (o_v x_int))) (xb_cons (xs_set (i := 11) nd rfl (by first | exact Or.inl rfl | exact Or.inr rfl) (x_call I.i__law_carried hr (by rfl) T.g__law_carried T.k__law_carried T.b__law_carried pass0 (xa_cons (o_var (i := 2) rfl (by first | exact Or.inl rfl | exact Or.inr (Or.inl rfl) | exact Or.inr (Or.inr rfl))) (xa_cons (o_var (i := 3) rfl (by first | exact Or.inl rfl | exact Or.inr (Or.inl rfl) | exact Or.inr (Or.inr rfl))) (xa_cons (o_var (i := 4) rfl (by first | exact Or.inl rfl | exact Or.inr (Or.inl rfl) | exact Or.inr (Or.inr rfl))) (xa_cons (o_var (i := 5) rfl (by first | exact Or.inl rfl | exact Or.inr (Or.inl rfl) | exact Or.inr (Or.inr rfl))) (xa_cons (o_var (i := 10) rfl (by first | exact Or.inl rfl | exact Or.inr (Or.inl rfl) | exact Or.inr (Or.inr rfl))) xa_nil))))))) (xb_one (xs_ret (x_cmp (op_eqD hr.units) s_eq (o_v (x_bin op_mod s_mod (o_v (x_biT call_int1 s_int1 (by rfl) T.m_int b_int (xa_cons (o_v (x_bin op_sub s_sub (o_v (x_bin op_mulA s_mul (o_v (x_ix ix_any s_ix (o_var (i := 8) rfl (by first | exact Or.inl rfl | exact Or.inr (Or.inl rfl) | exact Or.inr (Or.inr rfl))) (o_v x_int) (fun _ _ => rfl))) (o_v (x_call I.i__law_worth hr (by rfl) T.g__law_worth T.k__law_worth T.b__law_worth pass0 (xa_cons (o_var (i := 2) rfl (by first | exact Or.inl rfl | exact Or.inr (Or.inl rfl) | exact Or.inr (Or.inr rfl))) (xa_cons (o_var (i := 11) rfl (by first | exact Or.inl rfl | exact Or.inr (Or.inl rfl) | exact Or.inr (Or.inr rfl))) xa_nil)))))) (o_v (x_ix ix_any s_ix (o_var (i := 8) rfl (by first | exact Or.inl rfl | exact Or.inr (Or.inl rfl) | exact Or.inr (Or.inr rfl))) (o_v x_int) (fun _ _ => rfl))))) xa_nil))) (o_v (x_call I.i__law_whole_power hr (by rfl) T.g__law_whole_power T.k__law_whole_power T.b__law_whole_power pass0 (xa_cons (o_var (i := 2) rfl (by first | exact Or.inl rfl | exact Or.inr (Or.inl rfl) | exact Or.inr (Or.inr rfl))) (xa_cons (o_var (i := 10) rfl (by first | exact Or.inl rfl | exact Or.inr (Or.inl rfl) | exact Or.inr (Or.inr rfl))) xa_nil)))))) (o_v x_int) (nomark _))))))))))))))))))
theorem ih_zero : Ih P w K mg base fd 0 where
  i_power_of := fn_none
  i_inverse := fn_none
  i_is_between := fn_none
  i_are_numbers := fn_none
  i_check_prime := fn_none
  i_check_number := fn_none
  i_check_taps := fn_none
  i_are_so_many := fn_none
  i_check_start := fn_none
  i_check_wired := fn_none
  i_check_fraction := fn_none
  i_value_of := fn_none
  i_figures_of := fn_none
  i_rest_above := fn_none
  i_lowest := fn_none
  i__first_figure := fn_none
  i_carry_run := fn_none
  i_carry_fraction := fn_none
  i__told_by := fn_none
  i_fraction_row := fn_none
  i__law_taken := fn_none
  i__law_pick := fn_none
  i__law_prime := fn_none
  i__law_taps := fn_none
  i__law_alike := fn_none
  i__law_carried := fn_none
  i__law_worth := fn_none
  i__law_shared := fn_none
  i__law_lowest_of := fn_none
  i__law_whole_power := fn_none
  i_law := fn_none
theorem ih_all (T : Tx K mg fd) : ∀ n, Ih P w K mg base fd n
  | 0 => ih_zero
  | n + 1 =>
    have I := ih_all T n
    {
      i_power_of := ok_power_of T I
      i_inverse := ok_inverse T I
      i_is_between := ok_is_between T I
      i_are_numbers := ok_are_numbers T I
      i_check_prime := ok_check_prime T I
      i_check_number := ok_check_number T I
      i_check_taps := ok_check_taps T I
      i_are_so_many := ok_are_so_many T I
      i_check_start := ok_check_start T I
      i_check_wired := ok_check_wired T I
      i_check_fraction := ok_check_fraction T I
      i_value_of := ok_value_of T I
      i_figures_of := ok_figures_of T I
      i_rest_above := ok_rest_above T I
      i_lowest := ok_lowest T I
      i__first_figure := ok__first_figure T I
      i_carry_run := ok_carry_run T I
      i_carry_fraction := ok_carry_fraction T I
      i__told_by := ok__told_by T I
      i_fraction_row := ok_fraction_row T I
      i__law_taken := ok__law_taken T I
      i__law_pick := ok__law_pick T I
      i__law_prime := ok__law_prime T I
      i__law_taps := ok__law_taps T I
      i__law_alike := ok__law_alike T I
      i__law_carried := ok__law_carried T I
      i__law_worth := ok__law_worth T I
      i__law_shared := ok__law_shared T I
      i__law_lowest_of := ok__law_lowest_of T I
      i__law_whole_power := ok__law_whole_power T I
      i_law := ok_law T I
    }
end
/-! ### the head -/
def d_power_of : He.DefD := ⟨("power_of", none), "power_of", "power_of", defArgs (topS 9), defBody (topS 9), defScope (topS 9), [], []⟩
def d_inverse : He.DefD := ⟨("inverse", none), "inverse", "inverse", defArgs (topS 10), defBody (topS 10), defScope (topS 10), [], []⟩
def d_is_between : He.DefD := ⟨("is_between", none), "is_between", "is_between", defArgs (topS 16), defBody (topS 16), defScope (topS 16), [], []⟩
def d_are_numbers : He.DefD := ⟨("are_numbers", none), "are_numbers", "are_numbers", defArgs (topS 17), defBody (topS 17), defScope (topS 17), [], []⟩
def d_check_prime : He.DefD := ⟨("check_prime", none), "check_prime", "check_prime", defArgs (topS 18), defBody (topS 18), defScope (topS 18), [], []⟩
def d_check_number : He.DefD := ⟨("check_number", none), "check_number", "check_number", defArgs (topS 19), defBody (topS 19), defScope (topS 19), [], []⟩
def d_check_taps : He.DefD := ⟨("check_taps", none), "check_taps", "check_taps", defArgs (topS 20), defBody (topS 20), defScope (topS 20), [], []⟩
def d_are_so_many : He.DefD := ⟨("are_so_many", none), "are_so_many", "are_so_many", defArgs (topS 21), defBody (topS 21), defScope (topS 21), [], []⟩
def d_check_start : He.DefD := ⟨("check_start", none), "check_start", "check_start", defArgs (topS 22), defBody (topS 22), defScope (topS 22), [], []⟩
def d_check_wired : He.DefD := ⟨("check_wired", none), "check_wired", "check_wired", defArgs (topS 23), defBody (topS 23), defScope (topS 23), [], []⟩
def d_check_fraction : He.DefD := ⟨("check_fraction", none), "check_fraction", "check_fraction", defArgs (topS 24), defBody (topS 24), defScope (topS 24), [], []⟩
def d_value_of : He.DefD := ⟨("value_of", none), "value_of", "value_of", defArgs (topS 26), defBody (topS 26), defScope (topS 26), [], []⟩
def d_figures_of : He.DefD := ⟨("figures_of", none), "figures_of", "figures_of", defArgs (topS 27), defBody (topS 27), defScope (topS 27), [], []⟩
def d_rest_above : He.DefD := ⟨("rest_above", none), "rest_above", "rest_above", defArgs (topS 28), defBody (topS 28), defScope (topS 28), [], []⟩
def d_lowest : He.DefD := ⟨("lowest", none), "lowest", "lowest", defArgs (topS 29), defBody (topS 29), defScope (topS 29), [], []⟩
def d__first_figure : He.DefD := ⟨("_first_figure", none), "_first_figure", "_first_figure", defArgs (topS 30), defBody (topS 30), defScope (topS 30), [], []⟩
def d_carry_run : He.DefD := ⟨("carry_run", none), "carry_run", "carry_run", defArgs (topS 33), defBody (topS 33), defScope (topS 33), [], []⟩
def d_carry_fraction : He.DefD := ⟨("carry_fraction", none), "carry_fraction", "carry_fraction", defArgs (topS 34), defBody (topS 34), defScope (topS 34), [], []⟩
def d__told_by : He.DefD := ⟨("_told_by", none), "_told_by", "_told_by", defArgs (topS 35), defBody (topS 35), defScope (topS 35), [], []⟩
def d_fraction_row : He.DefD := ⟨("fraction_row", none), "fraction_row", "fraction_row", defArgs (topS 37), defBody (topS 37), defScope (topS 37), [], []⟩
def d__law_taken : He.DefD := ⟨("_law_taken", none), "_law_taken", "_law_taken", defArgs (topS 39), defBody (topS 39), defScope (topS 39), [], []⟩
def d__law_pick : He.DefD := ⟨("_law_pick", none), "_law_pick", "_law_pick", defArgs (topS 40), defBody (topS 40), defScope (topS 40), [], []⟩
def d__law_prime : He.DefD := ⟨("_law_prime", none), "_law_prime", "_law_prime", defArgs (topS 41), defBody (topS 41), defScope (topS 41), [], []⟩
def d__law_taps : He.DefD := ⟨("_law_taps", none), "_law_taps", "_law_taps", defArgs (topS 42), defBody (topS 42), defScope (topS 42), [], []⟩
def d__law_alike : He.DefD := ⟨("_law_alike", none), "_law_alike", "_law_alike", defArgs (topS 43), defBody (topS 43), defScope (topS 43), [], []⟩
def d__law_carried : He.DefD := ⟨("_law_carried", none), "_law_carried", "_law_carried", defArgs (topS 44), defBody (topS 44), defScope (topS 44), [], []⟩
def d__law_worth : He.DefD := ⟨("_law_worth", none), "_law_worth", "_law_worth", defArgs (topS 45), defBody (topS 45), defScope (topS 45), [], []⟩
def d__law_shared : He.DefD := ⟨("_law_shared", none), "_law_shared", "_law_shared", defArgs (topS 46), defBody (topS 46), defScope (topS 46), [], []⟩
def d__law_lowest_of : He.DefD := ⟨("_law_lowest_of", none), "_law_lowest_of", "_law_lowest_of", defArgs (topS 47), defBody (topS 47), defScope (topS 47), [], []⟩
def d__law_whole_power : He.DefD := ⟨("_law_whole_power", none), "_law_whole_power", "_law_whole_power", defArgs (topS 48), defBody (topS 48), defScope (topS 48), [], []⟩
def d_law : He.DefD := ⟨("law", none), "law", "law", defArgs (topS 49), defBody (topS 49), defScope (topS 49), [], []⟩
def fn : List He.DefD := [d_power_of, d_inverse, d_is_between, d_are_numbers, d_check_prime, d_check_number, d_check_taps, d_are_so_many, d_check_start, d_check_wired, d_check_fraction, d_value_of, d_figures_of, d_rest_above, d_lowest, d__first_figure, d_carry_run, d_carry_fraction, d__told_by, d_fraction_row, d__law_taken, d__law_pick, d__law_prime, d__law_taps, d__law_alike, d__law_carried, d__law_worth, d__law_shared, d__law_lowest_of, d__law_whole_power, d_law]
def fa : List He.Fa := [.free "abs", .free "all", .free "bool", .free "enumerate", .free "int", .free "isinstance", .free "len", .free "list", .free "range", .free "reversed", .free "str", .free "sum", .free "tuple", .int "MOST_CARRY" 10000000000000000000000000000000000000000000000000000000000000000000000, .int "MOST_NUMBERS" 400, .int "MOST_PART" 1000000000000000000000000000000000000000000000000000000000000, .int "MOST_TAPS" 60, .glo "PRIMES", .glo "power_of", .glo "inverse", .glo "is_between", .glo "are_numbers", .glo "check_prime", .glo "check_number", .glo "check_taps", .glo "are_so_many", .glo "check_start", .glo "check_wired", .glo "check_fraction", .glo "value_of", .glo "figures_of", .glo "rest_above", .glo "lowest", .glo "_first_figure", .glo "carry_run", .glo "carry_fraction", .glo "_told_by", .glo "fraction_row", .glo "_law_taken", .glo "_law_pick", .glo "_law_prime", .glo "_law_taps", .glo "_law_alike", .glo "_law_carried", .glo "_law_worth", .glo "_law_shared", .glo "_law_lowest_of", .glo "_law_whole_power", .glo "law"]
def ex (K : PySem.W.Frag) : Bool := He.tupB K "PRIMES" [.int 2, .int 3, .int 5, .int 7] && (He.eqO (PySem.W.nsIn K mainGlobals "gcd") (some (some (.builtin "math.gcd"))) && (true))
abbrev R : PySem.W.OpenRow := PySem.W.OpenLaw.row PySem.Challenge.rw_taprows_k67_whole_registers_with_carry
abbrev hk : PySem.W.Hook := hookE 4 fa fn ex
def ob (s : PySem.W.SharedT) : He.AlD × Bool := obsE 4 fa fn ex (HandSHeadRun.getT s)
theorem ob_eq (s : PySem.W.SharedT) : ob s = hk.obs s.abs := obsE_eq (HandSHeadRun.getT_eq s)
def loose : List Str := (["gcd", "RowsError", "BadPrime", "BadNumber", "BadTaps", "BadStart", "BadFraction", "PRIMES", "MOST_NUMBERS", "MOST_TAPS", "MOST_PART", "MOST_CARRY", "power_of", "inverse", "is_between", "are_numbers", "check_prime", "check_number", "check_taps", "are_so_many"] : List Str) ++ (["check_start", "check_wired", "check_fraction", "value_of", "figures_of", "rest_above", "lowest", "_first_figure", "carry_run", "carry_fraction", "_told_by", "fraction_row", "_law_taken", "_law_pick", "_law_prime", "_law_taps", "_law_alike", "_law_carried", "_law_worth", "_law_shared"] : List Str) ++ (["_law_lowest_of", "_law_whole_power"] : List Str)
theorem run_ok (w : World) : HeadI.RunI R (PySem.W.view R.prog [49]) hk ob 3000 6000 loose w := by
  unfold HeadI.RunI
  kernel_rfl
theorem tx {K : PySem.W.Frag} {h : Heap} {mg : Str → Option Value} (X : K.In h) (G : h.Ns mainGlobals mg) (c : He.SaysD fa fn K) (ce : ex K = true) : ∃ fd, Tx K mg fd := by
  obtain ⟨fd0, F0⟩ := c.def_ 0 (d := d_power_of) rfl
  obtain ⟨fd1, F1⟩ := c.def_ 1 (d := d_inverse) rfl
  obtain ⟨fd2, F2⟩ := c.def_ 2 (d := d_is_between) rfl
  obtain ⟨fd3, F3⟩ := c.def_ 3 (d := d_are_numbers) rfl
  obtain ⟨fd4, F4⟩ := c.def_ 4 (d := d_check_prime) rfl
  obtain ⟨fd5, F5⟩ := c.def_ 5 (d := d_check_number) rfl
  obtain ⟨fd6, F6⟩ := c.def_ 6 (d := d_check_taps) rfl
  obtain ⟨fd7, F7⟩ := c.def_ 7 (d := d_are_so_many) rfl
  obtain ⟨fd8, F8⟩ := c.def_ 8 (d := d_check_start) rfl
  obtain ⟨fd9, F9⟩ := c.def_ 9 (d := d_check_wired) rfl
  obtain ⟨fd10, F10⟩ := c.def_ 10 (d := d_check_fraction) rfl
  obtain ⟨fd11, F11⟩ := c.def_ 11 (d := d_value_of) rfl
  obtain ⟨fd12, F12⟩ := c.def_ 12 (d := d_figures_of) rfl
  obtain ⟨fd13, F13⟩ := c.def_ 13 (d := d_rest_above) rfl
  obtain ⟨fd14, F14⟩ := c.def_ 14 (d := d_lowest) rfl
  obtain ⟨fd15, F15⟩ := c.def_ 15 (d := d__first_figure) rfl
  obtain ⟨fd16, F16⟩ := c.def_ 16 (d := d_carry_run) rfl
  obtain ⟨fd17, F17⟩ := c.def_ 17 (d := d_carry_fraction) rfl
  obtain ⟨fd18, F18⟩ := c.def_ 18 (d := d__told_by) rfl
  obtain ⟨fd19, F19⟩ := c.def_ 19 (d := d_fraction_row) rfl
  obtain ⟨fd20, F20⟩ := c.def_ 20 (d := d__law_taken) rfl
  obtain ⟨fd21, F21⟩ := c.def_ 21 (d := d__law_pick) rfl
  obtain ⟨fd22, F22⟩ := c.def_ 22 (d := d__law_prime) rfl
  obtain ⟨fd23, F23⟩ := c.def_ 23 (d := d__law_taps) rfl
  obtain ⟨fd24, F24⟩ := c.def_ 24 (d := d__law_alike) rfl
  obtain ⟨fd25, F25⟩ := c.def_ 25 (d := d__law_carried) rfl
  obtain ⟨fd26, F26⟩ := c.def_ 26 (d := d__law_worth) rfl
  obtain ⟨fd27, F27⟩ := c.def_ 27 (d := d__law_shared) rfl
  obtain ⟨fd28, F28⟩ := c.def_ 28 (d := d__law_lowest_of) rfl
  obtain ⟨fd29, F29⟩ := c.def_ 29 (d := d__law_whole_power) rfl
  obtain ⟨fd30, F30⟩ := c.def_ 30 (d := d_law) rfl
  let fd : Nat → FuncData := fun i => match i with
    | 0 => fd0
    | 1 => fd1
    | 2 => fd2
    | 3 => fd3
    | 4 => fd4
    | 5 => fd5
    | 6 => fd6
    | 7 => fd7
    | 8 => fd8
    | 9 => fd9
    | 10 => fd10
    | 11 => fd11
    | 12 => fd12
    | 13 => fd13
    | 14 => fd14
    | 15 => fd15
    | 16 => fd16
    | 17 => fd17
    | 18 => fd18
    | 19 => fd19
    | 20 => fd20
    | 21 => fd21
    | 22 => fd22
    | 23 => fd23
    | 24 => fd24
    | 25 => fd25
    | 26 => fd26
    | 27 => fd27
    | 28 => fd28
    | 29 => fd29
    | 30 => fd30
    | _ => fd0
  exact ⟨fd, {
    m_abs := He.free_ok X G (c.fact 0 rfl)
    m_all := He.free_ok X G (c.fact 1 rfl)
    m_bool := He.free_ok X G (c.fact 2 rfl)
    m_enumerate := He.free_ok X G (c.fact 3 rfl)
    m_int := He.free_ok X G (c.fact 4 rfl)
    m_isinstance := He.free_ok X G (c.fact 5 rfl)
    m_len := He.free_ok X G (c.fact 6 rfl)
    m_list := He.free_ok X G (c.fact 7 rfl)
    m_range := He.free_ok X G (c.fact 8 rfl)
    m_reversed := He.free_ok X G (c.fact 9 rfl)
    m_str := He.free_ok X G (c.fact 10 rfl)
    m_sum := He.free_ok X G (c.fact 11 rfl)
    m_tuple := He.free_ok X G (c.fact 12 rfl)
    c_MOST_CARRY := He.int_ok X G (c.fact 13 rfl)
    c_MOST_NUMBERS := He.int_ok X G (c.fact 14 rfl)
    c_MOST_PART := He.int_ok X G (c.fact 15 rfl)
    c_MOST_TAPS := He.int_ok X G (c.fact 16 rfl)
    g_PRIMES := He.glo_ok X G (c.fact 17 rfl)
    t_PRIMES := fun H => He.tupB_ok (vs := [.int 2, .int 3, .int 5, .int 7]) (He.ba ce).1 H
    m_gcd := PySem.W.mg_of X G (He.eqO_ok (He.ba (He.ba ce).2).1)
    g_power_of := He.glo_ok X G (c.fact 18 rfl)
    g_inverse := He.glo_ok X G (c.fact 19 rfl)
    g_is_between := He.glo_ok X G (c.fact 20 rfl)
    g_are_numbers := He.glo_ok X G (c.fact 21 rfl)
    g_check_prime := He.glo_ok X G (c.fact 22 rfl)
    g_check_number := He.glo_ok X G (c.fact 23 rfl)
    g_check_taps := He.glo_ok X G (c.fact 24 rfl)
    g_are_so_many := He.glo_ok X G (c.fact 25 rfl)
    g_check_start := He.glo_ok X G (c.fact 26 rfl)
    g_check_wired := He.glo_ok X G (c.fact 27 rfl)
    g_check_fraction := He.glo_ok X G (c.fact 28 rfl)
    g_value_of := He.glo_ok X G (c.fact 29 rfl)
    g_figures_of := He.glo_ok X G (c.fact 30 rfl)
    g_rest_above := He.glo_ok X G (c.fact 31 rfl)
    g_lowest := He.glo_ok X G (c.fact 32 rfl)
    g__first_figure := He.glo_ok X G (c.fact 33 rfl)
    g_carry_run := He.glo_ok X G (c.fact 34 rfl)
    g_carry_fraction := He.glo_ok X G (c.fact 35 rfl)
    g__told_by := He.glo_ok X G (c.fact 36 rfl)
    g_fraction_row := He.glo_ok X G (c.fact 37 rfl)
    g__law_taken := He.glo_ok X G (c.fact 38 rfl)
    g__law_pick := He.glo_ok X G (c.fact 39 rfl)
    g__law_prime := He.glo_ok X G (c.fact 40 rfl)
    g__law_taps := He.glo_ok X G (c.fact 41 rfl)
    g__law_alike := He.glo_ok X G (c.fact 42 rfl)
    g__law_carried := He.glo_ok X G (c.fact 43 rfl)
    g__law_worth := He.glo_ok X G (c.fact 44 rfl)
    g__law_shared := He.glo_ok X G (c.fact 45 rfl)
    g__law_lowest_of := He.glo_ok X G (c.fact 46 rfl)
    g__law_whole_power := He.glo_ok X G (c.fact 47 rfl)
    g_law := He.glo_ok X G (c.fact 48 rfl)
    f_power_of := F0
    k_power_of := F0.kp
    b_power_of := FunD.bindsN F0 fun _ _ _ _ _ _ us hl => match us, hl with | [_, _], _ => rfl
    f_inverse := F1
    k_inverse := F1.kp
    b_inverse := FunD.bindsN F1 fun _ _ _ _ _ _ us hl => match us, hl with | [_, _], _ => rfl
    f_is_between := F2
    k_is_between := F2.kp
    b_is_between := FunD.bindsN F2 fun _ _ _ _ _ _ us hl => match us, hl with | [_, _, _], _ => rfl
    f_are_numbers := F3
    k_are_numbers := F3.kp
    b_are_numbers := FunD.bindsN F3 fun _ _ _ _ _ _ us hl => match us, hl with | [_, _, _], _ => rfl
    f_check_prime := F4
    k_check_prime := F4.kp
    b_check_prime := FunD.bindsN F4 fun _ _ _ _ _ _ us hl => match us, hl with | [_], _ => rfl
    f_check_number := F5
    k_check_number := F5.kp
    b_check_number := FunD.bindsN F5 fun _ _ _ _ _ _ us hl => match us, hl with | [_, _, _], _ => rfl
    f_check_taps := F6
    k_check_taps := F6.kp
    b_check_taps := FunD.bindsN F6 fun _ _ _ _ _ _ us hl => match us, hl with | [_, _], _ => rfl
    f_are_so_many := F7
    k_are_so_many := F7.kp
    b_are_so_many := FunD.bindsN F7 fun _ _ _ _ _ _ us hl => match us, hl with | [_, _, _], _ => rfl
    f_check_start := F8
    k_check_start := F8.kp
    b_check_start := FunD.bindsN F8 fun _ _ _ _ _ _ us hl => match us, hl with | [_, _, _], _ => rfl
    f_check_wired := F9
    k_check_wired := F9.kp
    b_check_wired := FunD.bindsN F9 fun _ _ _ _ _ _ us hl => match us, hl with | [_, _, _], _ => rfl
    f_check_fraction := F10
    k_check_fraction := F10.kp
    b_check_fraction := FunD.bindsN F10 fun _ _ _ _ _ _ us hl => match us, hl with | [_, _], _ => rfl
    f_value_of := F11
    k_value_of := F11.kp
    b_value_of := FunD.bindsN F11 fun _ _ _ _ _ _ us hl => match us, hl with | [_, _], _ => rfl
    f_figures_of := F12
    k_figures_of := F12.kp
    b_figures_of := FunD.bindsN F12 fun _ _ _ _ _ _ us hl => match us, hl with | [_, _, _, _], _ => rfl
    f_rest_above := F13
    k_rest_above := F13.kp
    b_rest_above := FunD.bindsN F13 fun _ _ _ _ _ _ us hl => match us, hl with | [_, _, _], _ => rfl
    f_lowest := F14
    k_lowest := F14.kp
    b_lowest := FunD.bindsN F14 fun _ _ _ _ _ _ us hl => match us, hl with | [_, _], _ => rfl
    f__first_figure := F15
    k__first_figure := F15.kp
    b__first_figure := FunD.bindsN F15 fun _ _ _ _ _ _ us hl => match us, hl with | [_, _, _], _ => rfl
    f_carry_run := F16
    k_carry_run := F16.kp
    b_carry_run := FunD.bindsN F16 fun _ _ _ _ _ _ us hl => match us, hl with | [_, _, _, _, _], _ => rfl
    f_carry_fraction := F17
    k_carry_fraction := F17.kp
    b_carry_fraction := FunD.bindsN F17 fun _ _ _ _ _ _ us hl => match us, hl with | [_, _, _, _], _ => rfl
    f__told_by := F18
    k__told_by := F18.kp
    b__told_by := FunD.bindsN F18 fun _ _ _ _ _ _ us hl => match us, hl with | [_, _, _], _ => rfl
    f_fraction_row := F19
    k_fraction_row := F19.kp
    b_fraction_row := FunD.bindsN F19 fun _ _ _ _ _ _ us hl => match us, hl with | [_, _, _], _ => rfl
    f__law_taken := F20
    k__law_taken := F20.kp
    b__law_taken := FunD.bindsN F20 fun _ _ _ _ _ _ us hl => match us, hl with | [_, _], _ => rfl
    f__law_pick := F21
    k__law_pick := F21.kp
    b__law_pick := FunD.bindsN F21 fun _ _ _ _ _ _ us hl => match us, hl with | [_, _], _ => rfl
    f__law_prime := F22
    k__law_prime := F22.kp
    b__law_prime := FunD.bindsN F22 fun _ _ _ _ _ _ us hl => match us, hl with | [_], _ => rfl
    f__law_taps := F23
    k__law_taps := F23.kp
    b__law_taps := FunD.bindsN F23 fun _ _ _ _ _ _ us hl => match us, hl with | [_, _, _], _ => rfl
    f__law_alike := F24
    k__law_alike := F24.kp
    b__law_alike := FunD.bindsN F24 fun _ _ _ _ _ _ us hl => match us, hl with | [_, _], _ => rfl
    f__law_carried := F25
    k__law_carried := F25.kp
    b__law_carried := FunD.bindsN F25 fun _ _ _ _ _ _ us hl => match us, hl with | [_, _, _, _, _], _ => rfl
    f__law_worth := F26
    k__law_worth := F26.kp
    b__law_worth := FunD.bindsN F26 fun _ _ _ _ _ _ us hl => match us, hl with | [_, _], _ => rfl
    f__law_shared := F27
    k__law_shared := F27.kp
    b__law_shared := FunD.bindsN F27 fun _ _ _ _ _ _ us hl => match us, hl with | [_, _], _ => rfl
    f__law_lowest_of := F28
    k__law_lowest_of := F28.kp
    b__law_lowest_of := FunD.bindsN F28 fun _ _ _ _ _ _ us hl => match us, hl with | [_, _], _ => rfl
    f__law_whole_power := F29
    k__law_whole_power := F29.kp
    b__law_whole_power := FunD.bindsN F29 fun _ _ _ _ _ _ us hl => match us, hl with | [_, _], _ => rfl
    f_law := F30
    k_law := F30.kp
    b_law := FunD.bindsN F30 fun _ _ _ _ _ _ us hl => match us, hl with | [_], _ => rfl }⟩
end IPL
end
section
set_option linter.all false
set_option maxRecDepth 8000
/-! Com0: what laws share, apart from any table of functions. -/
namespace IPL
open IP
open PySem (PyData)
/-- all within 0 .. p - 1, at most so many -/
def numsB (p : Int) (most : Int) (xs : List Int) : Bool := if most < (xs.length : Int) then false else xs.all fun x => decide (0 ≤ x ∧ x ≤ p - 1)
def isPrime (p : Int) : Prop := p = 2 ∨ p = 3 ∨ p = 5 ∨ p = 7
def nums (p : Int) (xs : List Int) : Prop := ∀ x ∈ xs, 0 ≤ x ∧ x < p
theorem numsB_of {p most : Int} {xs : List Int} (h : nums p xs) (hl : (xs.length : Int) ≤ most) : numsB p most xs = true := by
  unfold numsB
  rw [if_neg (by omega), List.all_eq_true]
  intro x hx
  have := h x hx
  exact decide_eq_true (by omega)
theorem prime_pos {p : Int} (h : isPrime p) : 2 ≤ p ∧ p ≤ 7 := by
  rcases h with rfl | rfl | rfl | rfl <;> decide
/-- what a law draws from: the script, how far it is read, what is kept -/
def RowOk (ns : List Int) (xs : List D) : Prop := ∃ a b c : Int, xs = [scr ns, .int a, .int b, .int c] ∧ 0 ≤ a
theorem atD4_0 (a b c d : D) : atD [a, b, c, d] 0 = some a := rfl
theorem atD4_1 (a b c d : D) : atD [a, b, c, d] 1 = some b := rfl
theorem atD4_2 (a b c d : D) : atD [a, b, c, d] 2 = some c := rfl
theorem atD4_3 (a b c d : D) : atD [a, b, c, d] 3 = some d := rfl
theorem ixN4_1 : IP.ixN 4 1 = some 1 := rfl
theorem ixN4_2 : IP.ixN 4 2 = some 2 := rfl
theorem ixN4_3 : IP.ixN 4 3 = some 3 := rfl
@[simp] theorem shaped_int (v : Int) : PySem.SeqAt.shaped (.int v) = true := EV.shI v
@[simp] theorem shaped_none : PySem.SeqAt.shaped .none = true := EV.shN
@[simp] theorem shaped_bool (v : Bool) : PySem.SeqAt.shaped (.bool v) = true := EV.shB v
@[simp] theorem shaped_nil : PySem.SeqAt.shaped (.list []) = true := by decide
@[simp] theorem eqv_int (a b : Int) : PyData.eqv (.int a) (.int b) = (a == b) := by rw [PyData.eqv]
@[simp] theorem eqv_none : PyData.eqv .none .none = true := by rw [PyData.eqv]
@[simp] theorem eqv_bool (a b : Bool) : PyData.eqv (.bool a) (.bool b) = (a == b) := by rw [PyData.eqv]
@[simp] theorem eqv_int_none (a : Int) : PyData.eqv (.int a) .none = false := by rw [PyData.eqv] <;> simp
@[simp] theorem eqv_nil : PyData.eqv (.list []) (.list []) = true := by rw [PyData.eqv, PyData.eqvAll]
theorem depthAll_ints : ∀ xs : List Int, PyData.depthAll (xs.map .int) ≤ 1
  | [] => by simp [PyData.depthAll]
  | x :: xs => by
    have := depthAll_ints xs
    simp [PyData.depthAll, PyData.depth] at *
    omega
theorem canLay_ints : ∀ xs : List Int, PyData.canLayAll0 (xs.map .int) = true
  | [] => by simp [PyData.canLayAll0]
  | x :: xs => by simp [PyData.canLayAll0, PyData.canLay0, canLay_ints xs]
@[simp] theorem shaped_row (xs : List Int) : PySem.SeqAt.shaped (.tuple (xs.map .int)) = true := by
  have := depthAll_ints xs
  simp [PySem.SeqAt.shaped, PyData.canLay0, PyData.depth, canLay_ints]
  omega
@[simp] theorem shaped_lst (xs : List Int) : PySem.SeqAt.shaped (.list (xs.map .int)) = true := by
  have := depthAll_ints xs
  simp [PySem.SeqAt.shaped, PyData.canLay0, PyData.depth, canLay_ints]
  omega
theorem eqvAll_ints : ∀ xs ys : List Int, PyData.eqvAll (xs.map .int) (ys.map .int) = decide (xs = ys)
  | [], [] => by simp [PyData.eqvAll]
  | [], y :: ys => by simp [PyData.eqvAll]
  | x :: xs, [] => by simp [PyData.eqvAll]
  | x :: xs, y :: ys => by
    simp [PyData.eqvAll, eqvAll_ints xs ys]
    by_cases h1 : x = y <;> by_cases h2 : xs = ys <;> simp [h1, h2]
@[simp] theorem eqv_row (xs ys : List Int) : PyData.eqv (.tuple (xs.map .int)) (.tuple (ys.map .int)) = decide (xs = ys) := by
  rw [PyData.eqv, eqvAll_ints]
@[simp] theorem eqv_lst (xs ys : List Int) : PyData.eqv (.list (xs.map .int)) (.list (ys.map .int)) = decide (xs = ys) := by
  rw [PyData.eqv, eqvAll_ints]
theorem p_eqT {us vs : List Int} : bEq (iT us) (iT vs) = some (.dat (.bool (decide (us = vs)))) := by rw [bEq, if_pos ⟨shaped_row us, shaped_row vs⟩, eqv_row]
theorem p_neT {us vs : List Int} : bNe (iT us) (iT vs) = some (.dat (.bool (!decide (us = vs)))) := by rw [bNe, if_pos ⟨shaped_row us, shaped_row vs⟩, eqv_row]
theorem p_eqT1 {us : List Int} {v : Int} : bEq (iT us) (.tuple [.int v]) = some (.dat (.bool (decide (us = [v])))) := p_eqT (vs := [v])
theorem p_neT1 {us : List Int} {v : Int} : bNe (iT us) (.tuple [.int v]) = some (.dat (.bool (!decide (us = [v])))) := p_neT (vs := [v])
theorem p_eqL {us vs : List Int} : bEq (iL us) (iL vs) = some (.dat (.bool (decide (us = vs)))) := by rw [bEq, if_pos ⟨shaped_lst us, shaped_lst vs⟩, eqv_lst]
theorem p_neL {us vs : List Int} : bNe (iL us) (iL vs) = some (.dat (.bool (!decide (us = vs)))) := by rw [bNe, if_pos ⟨shaped_lst us, shaped_lst vs⟩, eqv_lst]
theorem p_eqT0 {us : List Int} : bEq (iT us) (.tuple []) = some (.dat (.bool (decide (us = [])))) := p_eqT (vs := [])
theorem p_neT0 {us : List Int} : bNe (iT us) (.tuple []) = some (.dat (.bool (!decide (us = [])))) := p_neT (vs := [])
theorem p_eqL1 {us : List Int} {v : Int} : bEq (iL us) (.list [.int v]) = some (.dat (.bool (decide (us = [v])))) := p_eqL (vs := [v])
theorem p_neL1 {us : List Int} {v : Int} : bNe (iL us) (.list [.int v]) = some (.dat (.bool (!decide (us = [v])))) := p_neL (vs := [v])
theorem p_eqL0 : bEq (.list []) (.list []) = some (.dat (.bool true)) := by
  have := p_eqL (us := []) (vs := [])
  simpa using this
/-! draws in a comprehension -/
/-- a function that draws a number below m from a row -/
def Draws (c : Fnc) (ns : List Int) (m : Int) : Prop := ∀ xs, RowOk ns xs → ∃ k xs', c (some xs) [.int m] = some (.dat (.int k), some xs') ∧ (0 ≤ k ∧ k < m) ∧ RowOk ns xs'
theorem lc_draws {c : Fnc} {ns : List Int} {m : Int} (hd : Draws c ns m) {v : Nat} {e : Ev} (E : List D → Env) (EP : List D → D → Env)
    (h1 : ∀ xs d, (Tg.nm v).put d (E xs) = some (EP xs d)) (h2 : ∀ xs d k xs', c (some xs) [.int m] = some (.dat (.int k), some xs') → e (EP xs d) = some (.dat (.int k), EP xs' d)) (h3 : ∀ xs d, unAll [v] (EP xs d) = some (E xs)) (src : List D) : ∀ (ds : List D) (xs : List D), RowOk ns xs →
    ∃ is xs', lcGo [v] (.nm v) tYes e src none ds (E xs) = some (is.map .int, E xs') ∧ is.length = ds.length ∧ nums m is ∧ RowOk ns xs'
  | [], xs, hx => ⟨[], xs, by simp [lcGo], rfl, fun x h => by simp at h, hx⟩
  | d :: ds, xs, hx => by
    obtain ⟨k, xs1, e1, hk, hx1⟩ := hd xs hx
    obtain ⟨is, xs2, e2, hl, hn, hx2⟩ := lc_draws hd E EP h1 h2 h3 src ds xs1 hx1
    refine ⟨k :: is, xs2, ?_, by simp [hl], ?_, hx2⟩
    · have et : lcTurn [v] (.nm v) tYes e d (E xs) = some (some (.int k), E xs1) := by
        unfold lcTurn
        rw [h1]
        simp only [Option.bind_some, tYes, if_true, h2 _ _ _ _ e1, h3, Option.map_some, Res.toD]
      rw [lcGo_cons rfl, et]
      simp only [Option.bind_some, e2, Option.map_some]
      rfl
    · intro x hx
      rcases List.mem_cons.mp hx with rfl | hx
      · exact hk
      · exact hn x hx
/-- a draw's bound -/
def okM (m : Int) : Prop := 0 < m ∧ (m < 1073741824 ∨ m.natAbs.log2 < 9000)
theorem okM_s {m : Int} (h : 0 < m) (h2 : m < 1073741824) : okM m := ⟨h, .inl h2⟩
end IPL
end
section
set_option linter.all false
set_option maxRecDepth 8000
/-! Com1: tuples and lists of rows. -/
namespace IPL
open IP
open PySem (PyData)
abbrev iTT (xs : List (List Int)) : D := .tuple (xs.map iT)
abbrev iLT (xs : List (List Int)) : D := .list (xs.map iT)
theorem depthAll_rows : ∀ xs : List (List Int), PyData.depthAll (xs.map iT) ≤ 3
  | [] => by simp [PyData.depthAll]
  | x :: xs => by
    have h1 := depthAll_rows xs
    have h2 := depthAll_ints x
    simp only [List.map_cons, PyData.depthAll, PyData.depth] at *
    omega
theorem canLay_rows : ∀ xs : List (List Int), PyData.canLayAll0 (xs.map iT) = true
  | [] => by simp [PyData.canLayAll0]
  | x :: xs => by simp [PyData.canLayAll0, PyData.canLay0, canLay_ints, canLay_rows xs]
theorem shaped_rows (xs : List (List Int)) : PySem.SeqAt.shaped (iTT xs) = true := by
  have := depthAll_rows xs
  simp [PySem.SeqAt.shaped, PyData.canLay0, PyData.depth, canLay_rows]
  omega
theorem shaped_rowsL (xs : List (List Int)) : PySem.SeqAt.shaped (iLT xs) = true := by
  have := depthAll_rows xs
  simp [PySem.SeqAt.shaped, PyData.canLay0, PyData.depth, canLay_rows]
  omega
theorem eqvAll_rows : ∀ xs ys : List (List Int), PyData.eqvAll (xs.map iT) (ys.map iT) = decide (xs = ys)
  | [], [] => by simp [PyData.eqvAll]
  | [], y :: ys => by simp [PyData.eqvAll]
  | x :: xs, [] => by simp [PyData.eqvAll]
  | x :: xs, y :: ys => by
    have h : PyData.eqv (iT x) (iT y) = decide (x = y) := eqv_row x y
    rw [List.map_cons, List.map_cons, PyData.eqvAll, h, eqvAll_rows xs ys]
    by_cases h1 : x = y <;> by_cases h2 : xs = ys <;> simp [h1, h2]
theorem p_eqTT {us vs : List (List Int)} : bEq (iTT us) (iTT vs) = some (.dat (.bool (decide (us = vs)))) := by rw [bEq, if_pos ⟨shaped_rows us, shaped_rows vs⟩, PyData.eqv, eqvAll_rows]
theorem p_neTT {us vs : List (List Int)} : bNe (iTT us) (iTT vs) = some (.dat (.bool (!decide (us = vs)))) := by rw [bNe, if_pos ⟨shaped_rows us, shaped_rows vs⟩, PyData.eqv, eqvAll_rows]
theorem p_eqLT {us vs : List (List Int)} : bEq (iLT us) (iLT vs) = some (.dat (.bool (decide (us = vs)))) := by rw [bEq, if_pos ⟨shaped_rowsL us, shaped_rowsL vs⟩, PyData.eqv, eqvAll_rows]
theorem p_neLT {us vs : List (List Int)} : bNe (iLT us) (iLT vs) = some (.dat (.bool (!decide (us = vs)))) := by rw [bNe, if_pos ⟨shaped_rowsL us, shaped_rowsL vs⟩, PyData.eqv, eqvAll_rows]
theorem p_ixTT {us : List (List Int)} {k : Nat} (h : k < us.length) : bIx (iTT us) (.int (k : Int)) = some (.dat (iT (us.getD k []))) := by
  rw [EV.p_ixDT (by simpa using h)]
  simp [List.getD, h]
theorem p_ixLT {us : List (List Int)} {k : Nat} (h : k < us.length) : bIx (iLT us) (.int (k : Int)) = some (.dat (iT (us.getD k []))) := by
  rw [EV.p_ixDL (by simpa using h)]
  simp [List.getD, h]
theorem p_neL0 : bNe (.list []) (.list []) = some (.dat (.bool false)) := by
  have := p_neL (us := []) (vs := [])
  simpa using this
theorem map_map_iT {α : Type} (f : α → List Int) (l : List α) : l.map (fun x => iT (f x)) = (l.map f).map iT := by rw [List.map_map]; rfl
end IPL
end
section
set_option linter.all false
set_option maxRecDepth 8000
/-! Fig: figures of numbers to the base of a prime; inverses. -/
namespace IPL
open IP
open PySem (PyData)
/-- the least number from 1 on that is inverse to l modulo p -/
def IsInv (p l : Int) (m : Nat) : Prop := 1 ≤ m ∧ m ≤ 6 ∧ l * (m : Int) % p = 1 ∧ ∀ j : Nat, 1 ≤ j → j < m → l * (j : Int) % p ≠ 1
theorem inv_ex {p l : Int} (hp : isPrime p) (hl : l % p ≠ 0) : ∃ m, IsInv p l m := by
  have mk : ∀ m : Nat, 1 ≤ m → m ≤ 6 → l * (m : Int) % p = 1 → (∀ j : Nat, 1 ≤ j → j < m → l * (j : Int) % p ≠ 1) → ∃ m, IsInv p l m := fun m a b c d => ⟨m, a, b, c, d⟩
  rcases hp with rfl | rfl | rfl | rfl
  · refine mk 1 (by omega) (by omega) ?_ ?_
    · omega
    · intro j h1 h2; omega
  · have : l % 3 = 1 ∨ l % 3 = 2 := by omega
    rcases this with h | h
    · refine mk 1 (by omega) (by omega) (by omega) ?_; intro j h1 h2; omega
    · refine mk 2 (by omega) (by omega) (by omega) ?_
      intro j h1 h2
      obtain rfl : j = 1 := by omega
      omega
  · have : l % 5 = 1 ∨ l % 5 = 2 ∨ l % 5 = 3 ∨ l % 5 = 4 := by omega
    rcases this with h | h | h | h
    · refine mk 1 (by omega) (by omega) (by omega) ?_; intro j h1 h2; omega
    · refine mk 3 (by omega) (by omega) (by omega) ?_
      intro j h1 h2
      have : j = 1 ∨ j = 2 := by omega
      rcases this with rfl | rfl <;> omega
    · refine mk 2 (by omega) (by omega) (by omega) ?_
      intro j h1 h2
      obtain rfl : j = 1 := by omega
      omega
    · refine mk 4 (by omega) (by omega) (by omega) ?_
      intro j h1 h2
      have : j = 1 ∨ j = 2 ∨ j = 3 := by omega
      rcases this with rfl | rfl | rfl <;> omega
  · have : l % 7 = 1 ∨ l % 7 = 2 ∨ l % 7 = 3 ∨ l % 7 = 4 ∨ l % 7 = 5 ∨ l % 7 = 6 := by omega
    rcases this with h | h | h | h | h | h
    · refine mk 1 (by omega) (by omega) (by omega) ?_; intro j h1 h2; omega
    · refine mk 4 (by omega) (by omega) (by omega) ?_
      intro j h1 h2
      have : j = 1 ∨ j = 2 ∨ j = 3 := by omega
      rcases this with rfl | rfl | rfl <;> omega
    · refine mk 5 (by omega) (by omega) (by omega) ?_
      intro j h1 h2
      have : j = 1 ∨ j = 2 ∨ j = 3 ∨ j = 4 := by omega
      rcases this with rfl | rfl | rfl | rfl <;> omega
    · refine mk 2 (by omega) (by omega) (by omega) ?_
      intro j h1 h2
      obtain rfl : j = 1 := by omega
      omega
    · refine mk 3 (by omega) (by omega) (by omega) ?_
      intro j h1 h2
      have : j = 1 ∨ j = 2 := by omega
      rcases this with rfl | rfl <;> omega
    · refine mk 6 (by omega) (by omega) (by omega) ?_
      intro j h1 h2
      have : j = 1 ∨ j = 2 ∨ j = 3 ∨ j = 4 ∨ j = 5 := by omega
      rcases this with rfl | rfl | rfl | rfl | rfl <;> omega
theorem IsInv.uniq {p l : Int} {m m' : Nat} (h : IsInv p l m) (h' : IsInv p l m') : m = m' := by
  rcases Nat.lt_trichotomy m m' with a | a | a
  · exact absurd h.2.2.1 (h'.2.2.2 m h.1 a)
  · exact a
  · exact absurd h'.2.2.1 (h.2.2.2 m' h'.1 a)
/-- the first figure of a / l, m inverse to l -/
def ff (p a : Int) (m : Nat) : Int := a * (m : Int) % p
theorem ff_bd {p : Int} (hp : isPrime p) (a : Int) (m : Nat) : 0 ≤ ff p a m ∧ ff p a m < p := by
  have := prime_pos hp
  exact ⟨Int.emod_nonneg _ (by omega), Int.emod_lt_of_pos _ (by omega)⟩
theorem ff_dvd {p l a : Int} {m : Nat} (h : IsInv p l m) : ∃ t, a - ff p a m * l = p * t := by
  have h1 := Int.mul_ediv_add_emod (l * (m : Int)) p
  rw [h.2.2.1] at h1
  have h2 := Int.mul_ediv_add_emod (a * (m : Int)) p
  refine ⟨a * (m : Int) / p * l - a * (l * (m : Int) / p), ?_⟩
  show a - a * (m : Int) % p * l = _
  generalize a * (m : Int) / p = q at *
  generalize l * (m : Int) / p = t at *
  have h3 : a * (m : Int) % p = a * (m : Int) - p * q := by omega
  rw [h3, Int.sub_mul, Int.mul_sub, Int.mul_right_comm a, Int.mul_assoc a l, ← h1, Int.mul_add, Int.mul_one, ← Int.mul_assoc p q l, Int.mul_left_comm a p t]
  omega
theorem ff_rest {p l a : Int} {m : Nat} (hp : isPrime p) (h : IsInv p l m) : a = p * ((a - ff p a m * l) / p) + ff p a m * l := by
  have pp := prime_pos hp
  obtain ⟨t, ht⟩ := ff_dvd (a := a) h
  rw [ht, Int.mul_ediv_cancel_left _ (by omega)]
  omega
/-- the first n figures of a / l -/
def figs (p l : Int) (m : Nat) : Nat → Int → List Int
  | 0, _ => []
  | n + 1, a => ff p a m :: figs p l m n ((a - ff p a m * l) / p)
theorem figs_len (p l : Int) (m : Nat) : ∀ (n : Nat) (a : Int), (figs p l m n a).length = n
  | 0, _ => rfl
  | n + 1, a => by rw [figs, List.length_cons, figs_len p l m n]
theorem figs_nums {p : Int} (hp : isPrime p) (l : Int) (m : Nat) : ∀ (n : Nat) (a : Int), nums p (figs p l m n a)
  | 0, _ => fun x hx => by cases hx
  | n + 1, a => fun x hx => by
    rcases List.mem_cons.mp hx with rfl | hx
    · exact ff_bd hp a m
    · exact figs_nums hp l m n _ x hx
/-- the value of a row -/
def val (p : Int) (row : List Int) : Int := row.foldr (fun n v => v * p + n) 0
theorem val_nil (p : Int) : val p [] = 0 := rfl
theorem val_cons (p x : Int) (row : List Int) : val p (x :: row) = val p row * p + x := rfl
theorem val_rev (p : Int) (row : List Int) : row.reverse.foldl (fun v n => v * p + n) 0 = val p row := by rw [List.foldl_reverse]; rfl
theorem val_bd {p : Int} (hp : isPrime p) : ∀ row : List Int, nums p row → 0 ≤ val p row ∧ val p row < p ^ row.length
  | [], _ => by simp [val]
  | x :: row, h => by
    have pp := prime_pos hp
    obtain ⟨h1, h2⟩ := val_bd hp row fun y hy => h y (List.mem_cons_of_mem _ hy)
    have hx := h x List.mem_cons_self
    rw [val_cons, List.length_cons, Int.pow_succ]
    have h3 : 0 ≤ val p row * p := Int.mul_nonneg h1 (by omega)
    have h4 : val p row * p + p ≤ p ^ row.length * p := by
      have : (val p row + 1) * p ≤ p ^ row.length * p := Int.mul_le_mul_of_nonneg_right (by omega) (by omega)
      rw [Int.add_mul, Int.one_mul] at this
      exact this
    omega
/-- the figures of a, as the law reckons them -/
def digs (p : Int) : Nat → Int → List Int
  | 0, _ => []
  | n + 1, a => a % p :: digs p n (a / p)
theorem inv_one {p : Int} (hp : isPrime p) : IsInv p 1 1 := by
  have pp := prime_pos hp
  refine ⟨by omega, by omega, ?_, fun j h1 h2 => by omega⟩
  rw [Int.one_mul]
  exact Int.emod_eq_of_lt (by omega) (by omega)
theorem figs_one {p : Int} (hp : isPrime p) : ∀ (n : Nat) (a : Int), figs p 1 1 n a = digs p n a
  | 0, _ => rfl
  | n + 1, a => by
    have pp := prime_pos hp
    have h1 : ff p a 1 = a % p := by simp [ff]
    have h2 : (a - a % p * 1) / p = a / p := by
      have := Int.mul_ediv_add_emod a p
      rw [Int.mul_one, show a - a % p = p * (a / p) by omega, Int.mul_ediv_cancel_left _ (by omega)]
    rw [figs, digs, h1, h2, figs_one hp n]
theorem digs_len (p : Int) : ∀ (n : Nat) (a : Int), (digs p n a).length = n
  | 0, _ => rfl
  | n + 1, a => by rw [digs, List.length_cons, digs_len p n]
theorem figs_val {p l : Int} {m : Nat} (hp : isPrime p) (h : IsInv p l m) : ∀ (n : Nat) (a : Int), ∃ t, a - val p (figs p l m n a) * l = p ^ n * t
  | 0, a => ⟨a, by simp [figs, val]⟩
  | n + 1, a => by
    obtain ⟨t, ht⟩ := figs_val hp h n ((a - ff p a m * l) / p)
    have hr := ff_rest (a := a) hp h
    refine ⟨t, ?_⟩
    rw [figs, val_cons]
    generalize (a - ff p a m * l) / p = a' at *
    generalize val p (figs p l m n a') = w at *
    generalize ff p a m = d at *
    rw [Int.pow_succ, Int.mul_assoc, Int.mul_comm p t, ← Int.mul_assoc, ← ht, Int.sub_mul, Int.add_mul, hr, Int.mul_right_comm w p l]
    generalize w * l * p = z
    rw [Int.mul_comm p a']
    omega
theorem pow_pos' {p : Int} (hp : isPrime p) (n : Nat) : 0 < p ^ n := Int.pow_pos (by have := prime_pos hp; omega)
theorem digs_val {p : Int} (hp : isPrime p) (n : Nat) (a : Int) : val p (digs p n a) = a % p ^ n := by
  have h := figs_val hp (inv_one hp) n a
  have hn := figs_nums hp 1 1 n a
  rw [figs_one hp] at h hn
  obtain ⟨t, ht⟩ := h
  have hb := val_bd hp _ hn
  rw [digs_len] at hb
  rw [Int.mul_one] at ht
  have : a = val p (digs p n a) + p ^ n * t := by omega
  rw [this, Int.add_mul_emod_self_left]
  rw [← this]
  exact (Int.emod_eq_of_lt hb.1 hb.2).symm
/-- a number below 2 ^ n has a small log -/
theorem log_lt {a : Int} {n : Nat} (h : a.natAbs < 2 ^ n) (hn : 0 < n) : a.natAbs.log2 < n := by
  by_cases h0 : a.natAbs = 0
  · rw [h0]
    simpa using hn
  · exact (Nat.log2_lt h0).mpr h
theorem pow_le' {p : Int} (hp : isPrime p) : ∀ n : Nat, p ^ n ≤ 8 ^ n
  | 0 => by simp
  | n + 1 => by
    have pp := prime_pos hp
    have h1 := pow_le' hp n
    have h2 := pow_pos' hp n
    rw [Int.pow_succ, Int.pow_succ]
    exact Int.mul_le_mul h1 (by omega) (by omega) (by omega)
theorem val_log {p : Int} (hp : isPrime p) {row : List Int} (h : nums p row) {n : Nat} (hl : row.length ≤ n) : (val p row).natAbs.log2 < 3 * n + 1 := by
  obtain ⟨h1, h2⟩ := val_bd hp row h
  apply log_lt _ (by omega)
  have h3 := pow_le' hp row.length
  have h4 : (8 : Int) ^ row.length = ((2 ^ (3 * row.length) : Nat) : Int) := by
    rw [Nat.pow_mul]
    norm_cast
  have h5 : 2 ^ (3 * row.length) ≤ 2 ^ (3 * n + 1) := Nat.pow_le_pow_right (by omega) (by omega)
  omega
end IPL
end
section
set_option linter.all false
set_option maxRecDepth 8000
/-! Fig2: rows of fractions: uniqueness, sums, products. -/
namespace IPL
open IP
open PySem (PyData)
theorem ff_uniq {p l a x : Int} {m : Nat} (h : IsInv p l m) (hx : 0 ≤ x ∧ x < p) {s : Int} (e : a - x * l = p * s) : x = ff p a m := by
  have h1 := Int.mul_ediv_add_emod (l * (m : Int)) p
  rw [h.2.2.1] at h1
  generalize l * (m : Int) / p = q at h1
  have h2 : a * (m : Int) = x + p * (s * (m : Int) + x * q) := by
    have : a = x * l + p * s := by omega
    rw [this, Int.add_mul, Int.mul_assoc x l, ← h1, Int.mul_add, Int.mul_one, Int.mul_add, Int.mul_assoc p s, Int.mul_left_comm x p q]
    omega
  unfold ff
  rw [h2, Int.add_mul_emod_self_left]
  exact (Int.emod_eq_of_lt hx.1 hx.2).symm
theorem figs_uniq {p l : Int} {m : Nat} (hp : isPrime p) (h : IsInv p l m) : ∀ (n : Nat) (w : List Int) (a t : Int), nums p w → w.length = n → a - val p w * l = p ^ n * t → w = figs p l m n a
  | 0, w, a, t, _, hl, _ => by
    rw [List.length_eq_zero_iff.mp hl]
    rfl
  | n + 1, [], a, t, _, hl, _ => by cases hl
  | n + 1, x :: w, a, t, hn, hl, e => by
    have pp := prime_pos hp
    rw [val_cons, Int.pow_succ, Int.mul_assoc, Int.mul_left_comm, Int.add_mul] at e
    have e1 : a - x * l = p * (p ^ n * t + val p w * l) := by
      rw [Int.mul_add, ← e, Int.mul_right_comm (val p w) p l, Int.mul_comm p (val p w * l)]
      omega
    have hx := ff_uniq h (hn x List.mem_cons_self) e1
    rw [figs, ← hx]
    congr 1
    refine figs_uniq hp h n w _ t (fun y hy => hn y (List.mem_cons_of_mem _ hy)) (by simpa using hl) ?_
    rw [e1, Int.mul_ediv_cancel_left _ (by omega)]
    omega
theorem figs_scale {p l k : Int} {m m' : Nat} (hp : isPrime p) (h : IsInv p l m) (h' : IsInv p (l * k) m') (n : Nat) (a : Int) : figs p l m n a = figs p (l * k) m' n (a * k) := by
  obtain ⟨t, ht⟩ := figs_val hp h n a
  refine figs_uniq hp h' n _ _ (t * k) (figs_nums hp _ _ _ _) (figs_len _ _ _ _ _) ?_
  rw [← Int.mul_assoc, ← Int.mul_assoc, ← ht, Int.sub_mul]
theorem digs_mod {p : Int} (hp : isPrime p) (n : Nat) (v : Int) : ∃ t, v - val p (digs p n v) = p ^ n * t := by
  rw [digs_val hp]
  exact ⟨v / p ^ n, by have := Int.mul_ediv_add_emod v (p ^ n); omega⟩
theorem digs_nums {p : Int} (hp : isPrime p) (n : Nat) (v : Int) : nums p (digs p n v) := by
  rw [← figs_one hp]
  exact figs_nums hp _ _ _ _
theorem figs_sum {p l l' : Int} {m m' m2 : Nat} (hp : isPrime p) (h : IsInv p l m) (h' : IsInv p l' m') (h2 : IsInv p (l * l') m2) (n : Nat) (a b : Int) :
    digs p n (val p (figs p l m n a) + val p (figs p l' m' n b)) = figs p (l * l') m2 n (a * l' + b * l) := by
  obtain ⟨t, ht⟩ := figs_val hp h n a
  obtain ⟨t', ht'⟩ := figs_val hp h' n b
  generalize val p (figs p l m n a) = F at *
  generalize val p (figs p l' m' n b) = R at *
  obtain ⟨s, hs⟩ := digs_mod hp n (F + R)
  refine figs_uniq hp h2 n _ _ (t * l' + t' * l + s * (l * l')) (digs_nums hp n _) (digs_len p n _) ?_
  generalize val p (digs p n (F + R)) = w at *
  generalize p ^ n = P at *
  grind
theorem figs_prod {p l l' : Int} {m m' m2 : Nat} (hp : isPrime p) (h : IsInv p l m) (h' : IsInv p l' m') (h2 : IsInv p (l * l') m2) (n : Nat) (a b : Int) :
    digs p n (val p (figs p l m n a) * val p (figs p l' m' n b)) = figs p (l * l') m2 n (a * b) := by
  obtain ⟨t, ht⟩ := figs_val hp h n a
  obtain ⟨t', ht'⟩ := figs_val hp h' n b
  generalize val p (figs p l m n a) = F at *
  generalize val p (figs p l' m' n b) = R at *
  obtain ⟨s, hs⟩ := digs_mod hp n (F * R)
  refine figs_uniq hp h2 n _ _ (t * b + t' * F * l + s * (l * l')) (digs_nums hp n _) (digs_len p n _) ?_
  generalize val p (digs p n (F * R)) = w at *
  generalize p ^ n = P at *
  grind
theorem val_turn {p : Int} : ∀ w : List Int, val p (w.map fun x => p - 1 - x) = p ^ w.length - 1 - val p w
  | [] => by simp [val]
  | x :: w => by
    rw [List.map_cons, val_cons, val_cons, val_turn w, List.length_cons, Int.pow_succ]
    grind
theorem figs_turn {p l : Int} {m : Nat} (hp : isPrime p) (h : IsInv p l m) (n : Nat) (a : Int) : (figs p l m n a).map (fun x => p - 1 - x) = figs p l m n (0 - a - l) := by
  obtain ⟨t, ht⟩ := figs_val hp h n a
  have hn := figs_nums hp l m n a
  have hl := figs_len p l m n a
  refine figs_uniq hp h n _ _ (0 - t - l) ?_ (by rw [List.length_map, hl]) ?_
  · intro y hy
    obtain ⟨x, hx, rfl⟩ := List.mem_map.mp hy
    have := hn x hx
    omega
  · rw [val_turn, hl]
    generalize val p (figs p l m n a) = F at *
    generalize p ^ n = P at *
    grind
theorem mul_bd {a b A B : Int} (h1 : -A ≤ a ∧ a ≤ A) (h2 : -B ≤ b ∧ b ≤ B) : -(A * B) ≤ a * b ∧ a * b ≤ A * B := by
  have h := Nat.mul_le_mul (show a.natAbs ≤ A.toNat by omega) (show b.natAbs ≤ B.toNat by omega)
  rw [← Int.natAbs_mul] at h
  have e : ((A.toNat * B.toNat : Nat) : Int) = A * B := by
    rw [Int.natCast_mul, Int.toNat_of_nonneg (by omega), Int.toNat_of_nonneg (by omega)]
  omega
theorem low_mul {p l l' : Int} (hp : isPrime p) (h : l % p ≠ 0) (h' : l' % p ≠ 0) : l * l' % p ≠ 0 := by
  obtain ⟨m, hm⟩ := inv_ex hp h
  obtain ⟨m', hm'⟩ := inv_ex hp h'
  intro e
  have pp := prime_pos hp
  have e1 := Int.mul_ediv_add_emod (l * l') p
  have e2 := Int.mul_ediv_add_emod (l * (m : Int)) p
  have e3 := Int.mul_ediv_add_emod (l' * (m' : Int)) p
  rw [e] at e1
  rw [hm.2.2.1] at e2
  rw [hm'.2.2.1] at e3
  generalize l * l' / p = q1 at *
  generalize l * (m : Int) / p = q2 at *
  generalize l' * (m' : Int) / p = q3 at *
  have e4 : (1 : Int) = p * (q1 * (m : Int) * (m' : Int) - p * q2 * q3 - q2 - q3) := by grind
  have e5 : p ∣ 1 := ⟨_, e4⟩
  have := Int.le_of_dvd (by omega) e5
  omega
end IPL
end
section
set_option linter.all false
set_option maxRecDepth 8000
/-! Pol: polynomials as lists of numbers. -/
namespace IPL
open IP
open PySem (PyData)
def sg (f : Nat → Int) : Nat → Int
  | 0 => 0
  | n + 1 => sg f n + f n
theorem sg_congr {f g : Nat → Int} : ∀ {n : Nat}, (∀ j, j < n → f j = g j) → sg f n = sg g n
  | 0, _ => rfl
  | n + 1, h => by rw [sg, sg, sg_congr fun j hj => h j (by omega), h n (by omega)]
theorem sg_zero {f : Nat → Int} : ∀ {n : Nat}, (∀ j, j < n → f j = 0) → sg f n = 0
  | 0, _ => rfl
  | n + 1, h => by rw [sg, sg_zero fun j hj => h j (by omega), h n (by omega)]; rfl
theorem sg_more {f : Nat → Int} {n : Nat} : ∀ (m : Nat), (∀ j, n ≤ j → f j = 0) → sg f (n + m) = sg f n
  | 0, _ => rfl
  | m + 1, h => by
    rw [← Nat.add_assoc, sg, sg_more m h, h (n + m) (by omega)]
    omega
theorem sg_front (f : Nat → Int) : ∀ n : Nat, sg f (n + 1) = f 0 + sg (fun j => f (j + 1)) n
  | 0 => by simp [sg]
  | n + 1 => by
    rw [sg, sg_front f n, sg]
    omega
theorem sg_flip (f : Nat → Int) : ∀ n : Nat, sg (fun j => f (n - 1 - j)) n = sg f n
  | 0 => rfl
  | n + 1 => by
    rw [sg_front, sg, ← sg_flip f n]
    have : sg (fun j => f (n + 1 - 1 - (j + 1))) n = sg (fun j => f (n - 1 - j)) n := sg_congr fun j hj => by
      congr 1
      omega
    rw [this]
    simp only [Nat.add_sub_cancel, Nat.sub_zero]
    omega
theorem sum_sg (f : Nat → Int) : ∀ n : Nat, ((List.range n).map f).sum = sg f n
  | 0 => rfl
  | n + 1 => by
    rw [List.range_succ, List.map_append, List.sum_append, sum_sg f n, sg]
    simp
theorem sg_dvd {p : Int} {f g : Nat → Int} : ∀ {n : Nat}, (∀ j, j < n → p ∣ f j - g j) → p ∣ sg f n - sg g n
  | 0, _ => by simp [sg]
  | n + 1, h => by
    have h1 := sg_dvd (n := n) fun j hj => h j (by omega)
    have h2 := h n (by omega)
    rw [sg, sg, show sg f n + f n - (sg g n + g n) = (sg f n - sg g n) + (f n - g n) by omega]
    exact Int.dvd_add h1 h2
def tl (xs : List Int) : Nat → Nat
  | 0 => 0
  | n + 1 => if xs.getD n 0 = 0 then tl xs n else n + 1
theorem tl_le (xs : List Int) : ∀ n, tl xs n ≤ n
  | 0 => Nat.le_refl 0
  | n + 1 => by
    have := tl_le xs n
    rw [tl]
    split <;> omega
theorem tl_zero (xs : List Int) : ∀ n i, tl xs n ≤ i → i < n → xs.getD i 0 = 0
  | 0, i, _, h => by omega
  | n + 1, i, h1, h2 => by
    rw [tl] at h1
    split at h1
    · rename_i h
      by_cases e : i = n
      · rw [e]; exact h
      · exact tl_zero xs n i h1 (by omega)
    · omega
theorem tl_last (xs : List Int) : ∀ n, tl xs n = 0 ∨ xs.getD (tl xs n - 1) 0 ≠ 0
  | 0 => .inl rfl
  | n + 1 => by
    rw [tl]
    split
    · exact tl_last xs n
    · rename_i h
      exact .inr h
def trim (xs : List Int) : List Int := xs.take (tl xs xs.length)
theorem getD_big (xs : List Int) (i : Nat) (h : xs.length ≤ i) : xs.getD i 0 = 0 := by
  rw [List.getD_eq_getElem?_getD, List.getElem?_eq_none h]
  rfl
theorem tl_all (xs : List Int) (i : Nat) (h : tl xs xs.length ≤ i) : xs.getD i 0 = 0 := by
  by_cases h2 : i < xs.length
  · exact tl_zero xs _ i h h2
  · exact getD_big xs i (by omega)
theorem trim_length (xs : List Int) : (trim xs).length = tl xs xs.length := by
  have := tl_le xs xs.length
  rw [trim, List.length_take]
  omega
theorem trim_le (xs : List Int) : (trim xs).length ≤ xs.length := by
  rw [trim_length]
  exact tl_le ..
theorem getD_take (xs : List Int) (n i : Nat) : (xs.take n).getD i 0 = if i < n then xs.getD i 0 else 0 := by
  split
  · rename_i h
    rw [List.getD_eq_getElem?_getD, List.getD_eq_getElem?_getD, List.getElem?_take_of_lt h]
  · rename_i h
    exact getD_big _ _ (by rw [List.length_take]; omega)
theorem trim_getD (xs : List Int) (i : Nat) : (trim xs).getD i 0 = xs.getD i 0 := by
  rw [trim, getD_take]
  split
  · rfl
  · rename_i h
    exact (tl_all xs i (by omega)).symm
theorem list_ext {xs ys : List Int} (hl : xs.length = ys.length) (h : ∀ i, i < xs.length → xs.getD i 0 = ys.getD i 0) : xs = ys := by
  apply List.ext_getElem hl
  intro i h1 h2
  have := h i h1
  simpa [h1, h2] using this
theorem trim_ext {xs ys : List Int} (h : ∀ i, xs.getD i 0 = ys.getD i 0) : trim xs = trim ys := by
  have key : ∀ {xs ys : List Int}, (∀ i, xs.getD i 0 = ys.getD i 0) → tl ys ys.length ≤ tl xs xs.length := by
    intro xs ys h
    rcases tl_last ys ys.length with h1 | h1
    · omega
    · apply Nat.le_of_not_lt
      intro h2
      exact h1 (by rw [← h]; exact tl_all xs _ (by omega))
  apply list_ext
  · rw [trim_length, trim_length]
    exact Nat.le_antisymm (key fun i => (h i).symm) (key h)
  · intro i _
    rw [trim_getD, trim_getD, h]
theorem trim_trim (xs : List Int) : trim (trim xs) = trim xs := trim_ext fun i => trim_getD xs i
theorem trim_nums {p : Int} {xs : List Int} (h : nums p xs) : nums p (trim xs) := fun x hx => h x (List.mem_of_mem_take hx)
def polyL (xs : List Int) : Prop := xs = [] ∨ xs.getD (xs.length - 1) 0 ≠ 0
theorem trim_poly (xs : List Int) : polyL (trim xs) := by
  rcases tl_last xs xs.length with h | h
  · left
    exact List.length_eq_zero_iff.mp (by rw [trim_length, h])
  · right
    rw [trim_length, trim_getD]
    exact h
theorem trim_of_poly {xs : List Int} (h : polyL xs) : trim xs = xs := by
  rcases h with rfl | h
  · rfl
  · cases e : xs.length with
    | zero => rw [List.length_eq_zero_iff.mp e]; rfl
    | succ n =>
      rw [trim, e, tl, if_neg (by rw [e] at h; exact h), ← e, List.take_length]
def ab (a b : List Int) (k i : Nat) : Int := sg (fun j => if j ≤ i then a.getD j 0 * b.getD (i - j) 0 else 0) k
def abIn (a b : List Int) (k t i : Nat) : Int := ab a b k i + (if k ≤ i ∧ i < k + t then a.getD k 0 * b.getD (i - k) 0 else 0)
theorem ab_succ (a b : List Int) (k i : Nat) : ab a b (k + 1) i = ab a b k i + (if k ≤ i then a.getD k 0 * b.getD (i - k) 0 else 0) := rfl
theorem abIn_zero (a b : List Int) (k i : Nat) : abIn a b k 0 i = ab a b k i := by
  unfold abIn
  rw [if_neg (by omega)]
  omega
theorem abIn_all (a b : List Int) (k i : Nat) : abIn a b k b.length i = ab a b (k + 1) i := by
  unfold abIn
  rw [ab_succ]
  by_cases h : k ≤ i
  · by_cases h2 : i < k + b.length
    · rw [if_pos ⟨h, h2⟩, if_pos h]
    · rw [if_neg (by omega), if_pos h, getD_big b _ (by omega), Int.mul_zero]
  · rw [if_neg (by omega), if_neg h]
theorem abIn_here (a b : List Int) (k t : Nat) : abIn a b k t (k + t) = ab a b k (k + t) := by
  unfold abIn
  rw [if_neg (by omega)]
  omega
theorem abIn_next (a b : List Int) (k t : Nat) : abIn a b k (t + 1) (k + t) = ab a b k (k + t) + a.getD k 0 * b.getD t 0 := by
  unfold abIn
  rw [if_pos ⟨by omega, by omega⟩, show k + t - k = t by omega]
theorem abIn_other (a b : List Int) (k t i : Nat) (h : i ≠ k + t) : abIn a b k (t + 1) i = abIn a b k t i := by
  unfold abIn
  by_cases h2 : k ≤ i ∧ i < k + t
  · rw [if_pos h2, if_pos ⟨h2.1, by omega⟩]
  · rw [if_neg h2, if_neg (by omega)]
theorem getD_set (r : List Int) (j i : Nat) (v : Int) (hj : j < r.length) : (r.set j v).getD i 0 = if i = j then v else r.getD i 0 := by
  by_cases h : i = j
  · subst h
    rw [if_pos rfl]
    simp [hj]
  · rw [if_neg h, List.getD_eq_getElem?_getD, List.getD_eq_getElem?_getD, List.getElem?_set_ne (fun e => h e.symm)]
def mul (p : Int) (a b : List Int) : List Int := trim ((List.range (a.length + b.length)).map fun i => ab a b a.length i % p)
theorem mul_of {p : Int} {a b r : List Int} (h : ∀ i, r.getD i 0 = ab a b a.length i % p) : trim r = mul p a b := by
  apply trim_ext
  intro i
  rw [h]
  by_cases hi : i < a.length + b.length
  · simp [hi]
  · rw [getD_big _ i (by simp; omega)]
    unfold ab
    rw [sg_zero]
    · rfl
    · intro j hj
      by_cases hji : j ≤ i
      · rw [if_pos hji, getD_big b _ (by omega), Int.mul_zero]
      · rw [if_neg hji]
theorem getD_zeros (m i : Nat) : (List.replicate m (0 : Int)).getD i 0 = 0 := by
  by_cases h : i < m
  · simp [h]
  · exact getD_big _ _ (by simp; omega)
def cv (a b : List Int) (i : Nat) : Int := sg (fun j => a.getD j 0 * b.getD (i - j) 0) (i + 1)
theorem ab_cv (a b : List Int) (i : Nat) : ab a b a.length i = cv a b i := by
  unfold ab cv
  have h1 := sg_more (f := fun j => if j ≤ i then a.getD j 0 * b.getD (i - j) 0 else 0) (n := a.length) (i + 1) (fun j hj => by
    show (if j ≤ i then a.getD j 0 * b.getD (i - j) 0 else 0) = 0
    rw [getD_big a _ hj, Int.zero_mul]
    split <;> rfl)
  have h2 := sg_more (f := fun j => if j ≤ i then a.getD j 0 * b.getD (i - j) 0 else 0) (n := i + 1) a.length (fun j hj => by
    show (if j ≤ i then a.getD j 0 * b.getD (i - j) 0 else 0) = 0
    rw [if_neg (by omega)])
  rw [← h1, show a.length + (i + 1) = i + 1 + a.length by omega, h2]
  exact sg_congr fun j hj => by rw [if_pos (by omega)]
theorem cv_comm (a b : List Int) (i : Nat) : cv a b i = cv b a i := by
  unfold cv
  rw [← sg_flip]
  exact sg_congr fun j hj => by
    rw [Int.mul_comm, show i + 1 - 1 - j = i - j by omega, show i - (i - j) = j by omega]
theorem cv_ext {a b a' b' : List Int} (ha : ∀ i, a.getD i 0 = a'.getD i 0) (hb : ∀ i, b.getD i 0 = b'.getD i 0) (i : Nat) : cv a b i = cv a' b' i := sg_congr fun j _ => by rw [ha, hb]
theorem mul_getD (p : Int) (a b : List Int) (i : Nat) : (mul p a b).getD i 0 = cv a b i % p := by
  rw [← ab_cv]
  by_cases hi : i < a.length + b.length
  · rw [mul, trim_getD]
    simp [hi]
  · rw [getD_big _ i (by
      have := trim_le ((List.range (a.length + b.length)).map fun i => ab a b a.length i % p)
      rw [mul]
      simp at this
      omega)]
    unfold ab
    rw [sg_zero]
    · rfl
    · intro j hj
      by_cases hji : j ≤ i
      · rw [if_pos hji, getD_big b _ (by omega), Int.mul_zero]
      · rw [if_neg hji]
theorem cv_front (a b : List Int) (i : Nat) : cv a b i = a.getD 0 0 * b.getD i 0 + sg (fun k => a.getD (k + 1) 0 * b.getD (i - (k + 1)) 0) i := by
  unfold cv
  rw [sg_front]
  rfl
theorem emod_of {p x y : Int} (h : p ∣ x - y) : x % p = y % p := Int.emod_eq_emod_iff_emod_sub_eq_zero.mpr (Int.emod_eq_zero_of_dvd h)
theorem emod_small {p x : Int} (h : 0 ≤ x ∧ x < p) : x % p = x := Int.emod_eq_of_lt h.1 h.2
theorem nums_getD {p : Int} {xs : List Int} (hp : 0 < p) (h : nums p xs) (i : Nat) : 0 ≤ xs.getD i 0 ∧ xs.getD i 0 < p := by
  by_cases hi : i < xs.length
  · have f2 : xs[i]? = some xs[i] := List.getElem?_eq_getElem hi
    have f3 : xs.getD i 0 = xs[i] := by simp [f2]
    rw [f3]
    exact h _ (List.getElem_mem hi)
  · rw [getD_big _ _ (by omega)]
    omega
end IPL
end
section
set_option linter.all false
set_option maxRecDepth 8000
/-! Fcs: registers with carry. -/
namespace IPL
open IP
theorem val_app (p : Int) (b : List Int) : ∀ a : List Int, val p (a ++ b) = val p a + p ^ a.length * val p b
  | [] => by simp [val_nil]
  | x :: a => by
    rw [List.cons_append, val_cons, val_app p b a, val_cons, List.length_cons, Int.pow_succ]
    grind
theorem val_one (p x : Int) : val p [x] = x := by simp [val]
theorem val_take_next (p : Int) (a : List Int) {m : Nat} (h : m < a.length) : val p (a.take (m + 1)) = val p (a.take m) + p ^ m * a.getD m 0 := by
  rw [List.take_succ_eq_append_getElem h, val_app, val_one, List.length_take, Nat.min_eq_left (by omega)]
  congr 2
  simp [List.getD, h]
theorem val_drop (p : Int) (a : List Int) (m : Nat) (h : m ≤ a.length) : val p a = val p (a.take m) + p ^ m * val p (a.drop m) := by
  have := val_app p (a.drop m) (a.take m)
  rw [List.take_append_drop, List.length_take, Nat.min_eq_left h] at this
  exact this
def ctot (ts row : List Int) (z : Int) : Int := z + ((List.range ts.length).map fun k => ts.getD k 0 * row.getD (row.length - 1 - k) 0).sum
def crun (p : Int) (ts : List Int) : Nat → List Int → Int → List Int
  | 0, row, _ => row
  | k + 1, row, z => crun p ts k (row ++ [ctot ts row z % p]) (ctot ts row z / p)
theorem crun_len (p : Int) (ts : List Int) : ∀ (k : Nat) (row : List Int) (z : Int), (crun p ts k row z).length = row.length + k
  | 0, _, _ => rfl
  | k + 1, row, z => by rw [crun, crun_len p ts k]; simp; omega
theorem crun_nums {p : Int} (h0 : 0 < p) (ts : List Int) : ∀ (k : Nat) (row : List Int) (z : Int), nums p row → nums p (crun p ts k row z)
  | 0, _, _, h => h
  | k + 1, row, z, h => crun_nums h0 ts k _ _ fun x hx => by
    rcases List.mem_append.mp hx with hx | hx
    · exact h x hx
    · rw [List.mem_singleton.mp hx]
      exact ⟨Int.emod_nonneg _ (by omega), Int.emod_lt_of_pos _ h0⟩
/-- what is above, told by the numbers so far and the carry -/
def abv (p : Int) (ts row : List Int) (z : Int) : Int := -val p row + sg (fun i => ts.getD i 0 * p ^ (i + 1) * val p (row.take (row.length - 1 - i))) ts.length - p ^ row.length * z
theorem sg_scaleR (f : Nat → Int) (c : Int) : ∀ n, sg (fun j => f j * c) n = sg f n * c
  | 0 => by simp [sg]
  | n + 1 => by
    have := sg_scaleR f c n
    simp only [sg] at *
    rw [this, Int.add_mul]
theorem sg_add2 (f g : Nat → Int) : ∀ n, sg (fun j => f j + g j) n = sg f n + sg g n
  | 0 => by simp [sg]
  | n + 1 => by
    have := sg_add2 f g n
    simp only [sg] at *
    omega
theorem abv_step {p : Int} (h0 : 0 < p) {ts row : List Int} (hl : ts.length ≤ row.length) (z : Int) : abv p ts (row ++ [ctot ts row z % p]) (ctot ts row z / p) = abv p ts row z := by
  have hd := Int.mul_ediv_add_emod (ctot ts row z) p
  unfold abv
  rw [val_app, val_one, List.length_append, List.length_singleton, Int.pow_succ]
  have e1 : sg (fun i => ts.getD i 0 * p ^ (i + 1) * val p ((row ++ [ctot ts row z % p]).take (row.length + 1 - 1 - i))) ts.length = sg (fun i => ts.getD i 0 * p ^ (i + 1) * val p (row.take (row.length - 1 - i)) + ts.getD i 0 * row.getD (row.length - 1 - i) 0 * p ^ row.length) ts.length := sg_congr fun i hi => by
    have e : (row ++ [ctot ts row z % p]).take (row.length + 1 - 1 - i) = row.take (row.length - 1 - i + 1) := by
      rw [List.take_append_of_le_length (by omega)]
      congr 1
      omega
    show ts.getD i 0 * p ^ (i + 1) * val p ((row ++ [ctot ts row z % p]).take (row.length + 1 - 1 - i)) = _
    rw [e, val_take_next p row (by omega)]
    have ep : p ^ row.length = p ^ (i + 1) * p ^ (row.length - 1 - i) := by rw [← Int.pow_add, show i + 1 + (row.length - 1 - i) = row.length by omega]
    rw [ep]
    grind
  rw [e1, sg_add2, sg_scaleR]
  unfold ctot at hd ⊢
  rw [sum_sg] at hd ⊢
  generalize sg (fun i => ts.getD i 0 * p ^ (i + 1) * val p (row.take (row.length - 1 - i))) ts.length = S at *
  generalize sg (fun k => ts.getD k 0 * row.getD (row.length - 1 - k) 0) ts.length = U at *
  generalize p ^ row.length = P at *
  generalize (z + U) / p = D at *
  generalize (z + U) % p = M at *
  grind
theorem abv_crun {p : Int} (h0 : 0 < p) {ts : List Int} : ∀ (k : Nat) (row : List Int) (z : Int), ts.length ≤ row.length → ∃ z', abv p ts (crun p ts k row z) z' = abv p ts row z
  | 0, row, z, _ => ⟨z, rfl⟩
  | k + 1, row, z, h => by
    obtain ⟨z', e⟩ := abv_crun h0 (ts := ts) k (row ++ [ctot ts row z % p]) (ctot ts row z / p) (by simp; omega)
    exact ⟨z', by rw [crun, e, abv_step h0 h]⟩
theorem val_sg (p : Int) : ∀ a : List Int, val p a * p = sg (fun i => a.getD i 0 * p ^ (i + 1)) a.length
  | [] => by simp [val_nil, sg]
  | x :: a => by
    have ih := val_sg p a
    rw [val_cons, List.length_cons, sg_front]
    have e : sg (fun j => (x :: a).getD (j + 1) 0 * p ^ (j + 1 + 1)) a.length = sg (fun i => a.getD i 0 * p ^ (i + 1)) a.length * p := by
      rw [← sg_scaleR]
      exact sg_congr fun i _ => by
        show a.getD i 0 * p ^ (i + 1 + 1) = _
        rw [Int.pow_succ p (i + 1), Int.mul_assoc]
    rw [e, ← ih]
    show (val p a * p + x) * p = x * p ^ (0 + 1) + val p a * p * p
    rw [Int.pow_succ, Int.pow_zero]
    grind
/-- the row's value, times low, is above, up to a multiple of the power -/
theorem abv_dvd {p : Int} {ts row : List Int} (hl : ts.length ≤ row.length) (z : Int) : ∃ t, (val p ts * p - 1) * val p row - abv p ts row z = p ^ row.length * t := by
  unfold abv
  rw [val_sg]
  have key : ∀ m, m ≤ ts.length → ∃ t, sg (fun i => ts.getD i 0 * p ^ (i + 1)) m * val p row - sg (fun i => ts.getD i 0 * p ^ (i + 1) * val p (row.take (row.length - 1 - i))) m = p ^ row.length * t := by
    intro m
    induction m with
    | zero => intro _; exact ⟨0, by simp [sg]⟩
    | succ m ih =>
      intro h
      obtain ⟨t, e⟩ := ih (by omega)
      have hd := val_drop p row (row.length - 1 - m) (by omega)
      have ep : p ^ row.length = p ^ (m + 1) * p ^ (row.length - 1 - m) := by rw [← Int.pow_add, show m + 1 + (row.length - 1 - m) = row.length by omega]
      simp only [sg]
      exact ⟨t + ts.getD m 0 * val p (row.drop (row.length - 1 - m)), by grind⟩
  obtain ⟨t, e⟩ := key ts.length (Nat.le_refl _)
  exact ⟨t + z, by grind⟩
theorem crun_dvd {p : Int} (h0 : 0 < p) {ts st : List Int} (hl : st.length = ts.length) (z : Int) (k : Nat) : ∃ t, (val p ts * p - 1) * val p (crun p ts k st z) - abv p ts st z = p ^ (crun p ts k st z).length * t := by
  obtain ⟨z', e⟩ := abv_crun h0 (ts := ts) k st z (by omega)
  rw [← e]
  exact abv_dvd (by rw [crun_len]; omega) z'
theorem crun_take_dvd {p : Int} (h0 : 0 < p) {ts st : List Int} (hl : st.length = ts.length) (z : Int) (k c : Nat) (hc : c ≤ (crun p ts k st z).length) : ∃ t, (val p ts * p - 1) * val p ((crun p ts k st z).take c) - abv p ts st z = p ^ c * t := by
  obtain ⟨t, e⟩ := crun_dvd h0 hl z k
  have hd := val_drop p (crun p ts k st z) c hc
  have ep : p ^ (crun p ts k st z).length = p ^ c * p ^ ((crun p ts k st z).length - c) := by rw [← Int.pow_add, show c + ((crun p ts k st z).length - c) = (crun p ts k st z).length by omega]
  exact ⟨p ^ ((crun p ts k st z).length - c) * t - (val p ts * p - 1) * val p ((crun p ts k st z).drop c), by grind⟩
/-- a common divisor of above and low is left out -/
theorem pow_less {p v g : Int} {Q : Int} (h : g * Q = v * p - 1) (n : Nat) : ∃ s, p ^ n * v ^ n = 1 + g * s := by
  induction n with
  | zero => exact ⟨0, by simp⟩
  | succ n ih =>
    obtain ⟨s, e⟩ := ih
    rw [Int.pow_succ, Int.pow_succ]
    exact ⟨Q + s + g * s * Q, by grind⟩
theorem low_out {p v g Q A V : Int} (h : g * Q = v * p - 1) {n : Nat} (h2 : ∃ t, (v * p - 1) * V - g * A = p ^ n * t) : ∃ t, Q * V - A = p ^ n * t := by
  obtain ⟨s, e⟩ := pow_less h n
  obtain ⟨t, e2⟩ := h2
  exact ⟨v ^ n * (Q * V - A) - t * s, by grind⟩
end IPL
namespace IPL
open IP
/-- the carry behind so many steps -/
def crz (p : Int) (ts : List Int) : Nat → List Int → Int → Int
  | 0, _, z => z
  | k + 1, row, z => crz p ts k (row ++ [ctot ts row z % p]) (ctot ts row z / p)
theorem crun_snoc (p : Int) (ts : List Int) : ∀ (k : Nat) (row : List Int) (z : Int), crun p ts (k + 1) row z = crun p ts k row z ++ [ctot ts (crun p ts k row z) (crz p ts k row z) % p] ∧ crz p ts (k + 1) row z = ctot ts (crun p ts k row z) (crz p ts k row z) / p
  | 0, _, _ => ⟨rfl, rfl⟩
  | k + 1, row, z => by
    have ih := crun_snoc p ts k (row ++ [ctot ts row z % p]) (ctot ts row z / p)
    exact ih
/-- without common divisors -/
theorem gcd_out (a : Int) {l : Int} (hl : 0 < l) : ∃ a' l' : Int, a / ((Nat.gcd a.natAbs l.natAbs : Nat) : Int) = a' ∧ l / ((Nat.gcd a.natAbs l.natAbs : Nat) : Int) = l' ∧ ((Nat.gcd a.natAbs l.natAbs : Nat) : Int) * a' = a ∧ ((Nat.gcd a.natAbs l.natAbs : Nat) : Int) * l' = l ∧ Nat.gcd a'.natAbs l'.natAbs = 1 ∧ 1 ≤ l' ∧ l' ≤ l ∧ a'.natAbs ≤ a.natAbs := by
  have h0 : 0 < Nat.gcd a.natAbs l.natAbs := Nat.gcd_pos_of_pos_right _ (by omega)
  obtain ⟨u, hu⟩ := Int.ofNat_dvd_left.mpr (Nat.gcd_dvd_left a.natAbs l.natAbs)
  obtain ⟨v, hv⟩ := Int.ofNat_dvd_left.mpr (Nat.gcd_dvd_right a.natAbs l.natAbs)
  generalize hg : Nat.gcd a.natAbs l.natAbs = g at *
  have g0 : (0 : Int) < (g : Int) := Int.natCast_pos.mpr h0
  refine ⟨u, v, by rw [hu, Int.mul_ediv_cancel_left _ (by omega)], by rw [hv, Int.mul_ediv_cancel_left _ (by omega)], hu.symm, hv.symm, ?_, ?_, ?_, ?_⟩
  · have e1 : a.natAbs = g * u.natAbs := by rw [hu, Int.natAbs_mul, Int.natAbs_natCast]
    have e2 : l.natAbs = g * v.natAbs := by rw [hv, Int.natAbs_mul, Int.natAbs_natCast]
    rw [e1, e2, Nat.gcd_mul_left] at hg
    exact Nat.eq_of_mul_eq_mul_left h0 (by omega)
  · have : 0 < v := by
      rcases Int.lt_or_le 0 v with h | h
      · exact h
      · have := Int.mul_nonneg (show (0 : Int) ≤ (g : Int) by omega) (show 0 ≤ -v by omega)
        rw [Int.mul_neg] at this
        omega
    omega
  · have : 0 < v := by
      rcases Int.lt_or_le 0 v with h | h
      · exact h
      · have := Int.mul_nonneg (show (0 : Int) ≤ (g : Int) by omega) (show 0 ≤ -v by omega)
        rw [Int.mul_neg] at this
        omega
    have := Int.mul_le_mul_of_nonneg_right (show (1 : Int) ≤ (g : Int) by omega) (show 0 ≤ v by omega)
    omega
  · have e1 : a.natAbs = g * u.natAbs := by rw [hu, Int.natAbs_mul, Int.natAbs_natCast]
    rw [e1]
    exact Nat.le_mul_of_pos_left _ h0
end IPL
end
section
set_option linter.all false
/-! Eucl: Euclid's way with a bounded number of turns. -/
namespace IPL
def eucl : Nat → Nat → Nat → Option Nat
  | 0, _, _ => none
  | n + 1, a, b => if b = 0 then some a else eucl n b (a % b)
theorem mod_half {b r : Nat} (h0 : 0 < r) (h : r < b) : 2 * (b % r) < b := by
  rcases Nat.lt_or_ge b (2 * r) with h2 | h2
  · rw [Nat.mod_eq_sub_mod (by omega), Nat.mod_eq_of_lt (by omega)]
    omega
  · have := Nat.mod_lt b h0
    omega
theorem eucl_ok : ∀ (k n a b : Nat), b < 2 ^ k → 2 * k + 1 ≤ n → eucl n a b = some (Nat.gcd a b)
  | 0, n, a, b, h, hn => by
    obtain ⟨m, rfl⟩ : ∃ m, n = m + 1 := ⟨n - 1, by omega⟩
    have : b = 0 := by simpa using h
    subst this
    simp [eucl]
  | k + 1, n, a, b, h, hn => by
    obtain ⟨m, rfl⟩ : ∃ m, n = m + 2 := ⟨n - 2, by omega⟩
    by_cases hb : b = 0
    · subst hb
      simp [eucl]
    · rw [eucl, if_neg hb]
      have e : Nat.gcd a b = Nat.gcd b (a % b) := by
        rw [Nat.gcd_comm a b, Nat.gcd_rec, Nat.gcd_comm]
      rw [e]
      by_cases hr : a % b = 0
      · rw [eucl, if_pos hr, hr, Nat.gcd_zero_right]
      · have hlt := Nat.mod_lt a (show 0 < b by omega)
        rw [eucl, if_neg hr]
        have e2 : Nat.gcd b (a % b) = Nat.gcd (a % b) (b % (a % b)) := by
          rw [Nat.gcd_comm b, Nat.gcd_rec, Nat.gcd_comm]
        rw [e2]
        have := mod_half (b := b) (r := a % b) (by omega) hlt
        exact eucl_ok k m _ _ (by rw [Nat.pow_succ] at h; omega) (by omega)
end IPL
end
section
set_option linter.all false
set_option maxRecDepth 8000
/-! Big: bounds by powers of 2. -/
namespace IPL
open IP
/-- |x| < 2 ^ n -/
def ub (n : Nat) (x : Int) : Prop := x.natAbs < 2 ^ n
theorem ub.log {n : Nat} {x : Int} (h : ub n x) (hn : 0 < n) : x.natAbs.log2 < n := log_lt h hn
theorem ub.mono {n m : Nat} {x : Int} (h : ub n x) (hm : n ≤ m) : ub m x := Nat.lt_of_lt_of_le h (Nat.pow_le_pow_right (by omega) hm)
theorem ub.mul {n m : Nat} {x y : Int} (h : ub n x) (h' : ub m y) : ub (n + m) (x * y) := by
  unfold ub at *
  rw [Int.natAbs_mul, Nat.pow_add]
  exact Nat.mul_lt_mul'' h h'
theorem ub.add {n : Nat} {x y : Int} (h : ub n x) (h' : ub n y) : ub (n + 1) (x + y) := by
  unfold ub at *
  rw [Nat.pow_succ]
  have := Int.natAbs_add_le x y
  omega
theorem ub.neg {n : Nat} {x : Int} (h : ub n x) : ub n (-x) := by
  unfold ub at *
  rwa [Int.natAbs_neg]
theorem ub.sub {n : Nat} {x y : Int} (h : ub n x) (h' : ub n y) : ub (n + 1) (x - y) := by
  rw [Int.sub_eq_add_neg]
  exact h.add h'.neg
theorem ub_of {n : Nat} {x : Int} (h : -(2 ^ n) < x) (h2 : x < 2 ^ n) : ub n x := by
  unfold ub
  have : ((2 ^ n : Nat) : Int) = (2 : Int) ^ n := by rw [Int.natCast_pow]; rfl
  omega
theorem ub_small {x : Int} (h : -64 < x) (h2 : x < 64) : ub 6 x := by
  unfold ub
  omega
theorem ub_div {n : Nat} {x g : Int} (h : ub n x) (hg : 0 < g) : ub n (x / g) ∨ True := .inr trivial
theorem pow8 (k : Nat) : (8 : Int) ^ k = 2 ^ (3 * k) := by
  rw [Int.pow_mul]
  rfl
theorem ub_pow {p : Int} (hp : isPrime p) (k : Nat) : ub (3 * k + 1) (p ^ k) := by
  have h1 := pow_le' hp k
  have h2 := pow_pos' hp k
  rw [pow8] at h1
  refine ub_of ?_ ?_
  · have : (0 : Int) < 2 ^ (3 * k + 1) := Int.pow_pos (by decide)
    omega
  · rw [Int.pow_succ]
    have : (0 : Int) < 2 ^ (3 * k) := Int.pow_pos (by decide)
    omega
theorem ub_val {p : Int} (hp : isPrime p) {row : List Int} (h : nums p row) {n : Nat} (hl : row.length ≤ n) : ub (3 * n + 1) (val p row) := by
  have h1 := val_bd hp row h
  have h2 := ub_pow hp row.length
  have : ub (3 * row.length + 1) (val p row) := by
    unfold ub at *
    omega
  exact this.mono (by omega)
theorem ub_nat {n : Nat} {x : Nat} (h : x < 2 ^ n) : ub n (x : Int) := by
  unfold ub
  simpa using h
theorem ub.le {n : Nat} {x y : Int} (h : ub n y) (h0 : 0 ≤ x) (h1 : x ≤ y) : ub n x := by
  unfold ub at *
  omega
theorem ub.dvd {n : Nat} {x y : Int} (h : ub n y) (hy : y ≠ 0) (hd : x ∣ y) : ub n x := by
  unfold ub at *
  have := Int.natAbs_dvd_natAbs.mpr hd
  exact Nat.lt_of_le_of_lt (Nat.le_of_dvd (by omega) this) h
end IPL
end
section
set_option linter.all false
set_option maxRecDepth 8000
namespace IPL
open IP
open PySem (PyData)
local macro_rules | `(tactic| infer_instance) => `(tactic| ((repeat' (first | with_reducible exact rfl | with_reducible assumption | with_reducible apply EV.bo_nt | with_reducible apply EV.bo_nf | with_reducible refine decide_eq_true ?_ | with_reducible refine decide_eq_false ?_ | with_reducible apply EV.bne_t | with_reducible apply EV.bne_f | omega)); done))
local macro_rules | `(tactic| and_intros) => `(tactic| repeat' (first
  | ((with_reducible apply EV.prop_of); with_reducible assumption)
  | with_reducible apply EV.s_seq
  | with_reducible exact EV.q_rt
  | with_reducible apply EV.q_nx
  | with_reducible exact EV.q_bk
  | with_reducible exact EV.q_ct
  | with_reducible apply EV.s_set
  | with_reducible apply EV.o_V
  | with_reducible exact EV.td_d
  | with_reducible exact EV.td_n
  | with_reducible exact EV.so_d
  | with_reducible exact EV.so_n
  | with_reducible exact EV.rd_v
  | with_reducible apply EV.rd_o
  | with_reducible apply EV.rd_p
  | with_reducible exact EV.e_C
  | ((with_reducible apply EV.o_var); (with_reducible apply EV.get_of); exact rfl)
  | ((with_reducible apply EV.o_own); (with_reducible apply EV.get_of); exact rfl)
  | ((with_reducible apply EV.o_prm); (with_reducible apply EV.get_of); exact rfl)
  | ((with_reducible apply EV.e_var); (with_reducible apply EV.get_of); exact rfl)
  | ((with_reducible apply EV.e_varO); ((with_reducible apply EV.get_of); exact rfl))
  | ((with_reducible apply EV.get_of); exact rfl)
  | with_reducible exact EV.st_0u
  | with_reducible exact EV.st_0d
  | with_reducible exact EV.st_0o
  | ((with_reducible apply EV.st_0f); first | assumption | exact EV.fr_d | exact EV.fr_u)
  | with_reducible apply EV.st_s
  | with_reducible exact EV.ls_0
  | with_reducible apply EV.ls_s
  | with_reducible apply EV.e_bin
  | with_reducible exact EV.p_add
  | with_reducible exact EV.p_sub
  | ((with_reducible apply EV.p_mod); first | assumption | omega)
  | ((with_reducible apply EV.p_repL) <;> omega)
  | ((with_reducible apply EV.p_repT) <;> omega)
  | ((with_reducible apply EV.p_mulL); first | assumption | omega)
  | ((with_reducible apply EV.p_mulR); first | assumption | omega)
  | ((with_reducible apply EV.p_mulB); first | assumption | omega)
  | ((with_reducible apply EV.p_fdiv) <;> first | assumption | omega)
  | ((with_reducible apply EV.p_fdivB) <;> first | assumption | omega)
  | with_reducible exact EV.p_pow12
  | with_reducible exact EV.p_pow17
  | with_reducible exact EV.p_pow60
  | with_reducible exact EV.p_pow15
  | with_reducible exact EV.p_pow18
  | with_reducible exact EV.p_lt
  | with_reducible exact EV.p_le
  | with_reducible exact EV.p_gt
  | with_reducible exact EV.p_ge
  | with_reducible exact EV.p_eq
  | with_reducible exact EV.p_ne
  | with_reducible exact EV.is_ii
  | with_reducible exact EV.is_bi
  | with_reducible exact EV.is_tt
  | with_reducible exact EV.is_tl
  | with_reducible exact EV.is_lt
  | with_reducible exact EV.is_ll
  | with_reducible exact EV.uisn
  | with_reducible exact EV.uisn_i
  | with_reducible exact EV.uisn_t
  | with_reducible exact EV.unn
  | with_reducible exact EV.unn_i
  | with_reducible exact EV.unn_t
  | with_reducible exact IPL.p_eqT
  | with_reducible exact IPL.p_neT
  | with_reducible exact IPL.p_eqT1
  | with_reducible exact IPL.p_neT1
  | with_reducible exact IPL.p_eqL
  | with_reducible exact IPL.p_neL
  | with_reducible exact IPL.p_eqL0
  | with_reducible exact IPL.p_eqT0
  | with_reducible exact IPL.p_neT0
  | with_reducible exact IPL.p_eqL1
  | with_reducible exact IPL.p_neL1
  | with_reducible exact IPL.p_eqTT
  | with_reducible exact IPL.p_neTT
  | with_reducible exact IPL.p_eqLT
  | with_reducible exact IPL.p_neLT
  | with_reducible exact IPL.p_neL0
  | with_reducible exact EV.p_eqB
  | with_reducible exact EV.p_neB
  | ((with_reducible apply EV.p_xor) <;> first | assumption | omega)
  | with_reducible exact EV.p_shrN
  | with_reducible exact EV.p_and1
  | with_reducible exact EV.p_bitsN
  | ((with_reducible apply EV.p_and) <;> first | assumption | omega)
  | ((with_reducible apply EV.p_ix0); first | assumption | omega)
  | with_reducible exact EV.p_ix20
  | with_reducible exact EV.p_ix21
  | with_reducible exact EV.p_ix30
  | with_reducible exact EV.p_ix31
  | with_reducible exact EV.p_ix32
  | ((with_reducible apply EV.p_ixLastT); assumption)
  | ((with_reducible apply EV.p_ixNegT); first | assumption | omega)
  | ((with_reducible apply EV.p_ixNegL); first | assumption | omega)
  | ((with_reducible apply EV.p_ixT); first | assumption | omega)
  | ((with_reducible apply EV.p_ixL); first | assumption | omega)
  | ((with_reducible apply EV.p_ixT') <;> first | assumption | omega)
  | ((with_reducible apply EV.p_ixL') <;> first | assumption | omega)
  | ((with_reducible apply IPL.p_ixTT); first | assumption | omega)
  | ((with_reducible apply IPL.p_ixLT); first | assumption | omega)
  | ((with_reducible apply EV.p_ixDT); first | assumption | omega)
  | ((with_reducible apply EV.p_ixDL); first | assumption | omega)
  | ((with_reducible apply EV.p_addT); (with_reducible apply EV.line_of); first | assumption | omega)
  | ((with_reducible apply EV.p_addL); (with_reducible apply EV.line_of); first | assumption | omega)
  | ((with_reducible apply EV.p_addsL); first | assumption | omega)
  | ((with_reducible apply EV.p_addTs); (with_reducible apply EV.line_of); first | assumption | omega)
  | ((with_reducible apply EV.p_addsT); (with_reducible apply EV.line_of); first | assumption | omega)
  | with_reducible apply EV.e_un
  | with_reducible exact EV.p_neg
  | with_reducible exact EV.p_revT
  | with_reducible exact EV.p_tupRev
  | with_reducible exact EV.p_revL
  | with_reducible apply EV.e_bi
  | with_reducible exact EV.b_len2
  | with_reducible exact EV.b_len3
  | with_reducible exact EV.b_lenT
  | with_reducible exact EV.b_lenL
  | with_reducible exact EV.b_lenT'
  | with_reducible exact EV.b_lenL'
  | with_reducible exact EV.b_int
  | with_reducible exact EV.b_intB
  | with_reducible exact EV.b_tupL
  | with_reducible exact EV.b_tupT
  | with_reducible exact EV.b_lstL
  | with_reducible exact EV.b_lstT
  | with_reducible exact EV.b_sum
  | with_reducible exact EV.b_sum2L
  | with_reducible exact EV.b_sum2T
  | with_reducible apply EV.e_lc2
  | with_reducible exact EV.b_abs
  | with_reducible exact EV.b_max
  | with_reducible exact EV.b_min
  | with_reducible exact EV.b_gcd
  | with_reducible exact EV.a_n
  | with_reducible apply EV.a_c
  | with_reducible exact EV.ra_n
  | with_reducible apply EV.ra_c
  | with_reducible exact EV.vs_n
  | with_reducible apply EV.vs_c
  | ((with_reducible apply EV.e_call); (focus (and_intros; done)); (focus (and_intros; done)); ((with_reducible apply EV.any_of); exact rfl))
  | ((with_reducible apply EV.e_callD); (focus (and_intros; done)); (focus (and_intros; done)); (focus (and_intros; done)); first | exact EV.noT | exact EV.noI | exact EV.noB | exact EV.noN)
  | ((with_reducible apply EV.e_callRo); ((with_reducible apply EV.ow_o); (with_reducible apply EV.get_of); exact rfl))
  | ((with_reducible apply EV.e_callRp); ((with_reducible apply EV.ow_p); (with_reducible apply EV.get_of); exact rfl))
  | with_reducible apply EV.e_tup
  | with_reducible apply EV.e_lst
  | ((with_reducible apply EV.line_of); first | assumption | (simp only [List.length_map, List.length_range, List.length_append, List.length_cons, List.length_nil, List.length_reverse, List.length_zip, List.length_take, List.length_drop, List.length_dropLast]; omega))
  | ((with_reducible apply EV.line_lt); first | assumption | (simp only [List.length_map, List.length_range, List.length_append, List.length_cons, List.length_nil, List.length_reverse, List.length_zip, List.length_take, List.length_drop, List.length_dropLast]; omega))
  | with_reducible apply EV.e_lc
  | with_reducible exact EV.u_n
  | ((with_reducible apply EV.u_u); ((with_reducible apply EV.get_of); exact rfl))
  | ((with_reducible apply EV.u_d); ((with_reducible apply EV.get_of); exact rfl))
  | with_reducible exact EV.ba_n
  | ((with_reducible apply EV.ba_c); ((with_reducible apply EV.get_of); exact rfl))
  | ((with_reducible apply EV.i_r1); (focus (and_intros; done)); omega)
  | ((with_reducible apply EV.i_r1'); (focus (and_intros; done)); omega; omega)
  | ((with_reducible apply EV.i_r2); (focus (and_intros; done)); (focus (and_intros; done)); omega; omega; omega; omega)
  | ((with_reducible apply EV.i_rT); (focus (and_intros; done)))
  | ((with_reducible apply EV.i_rL); (focus (and_intros; done)))
  | ((with_reducible apply EV.i_zT); (focus (and_intros; done)); (focus (and_intros; done)))
  | ((with_reducible apply EV.i_zL); (focus (and_intros; done)); (focus (and_intros; done)))
  | ((with_reducible apply EV.i_enT); (focus (and_intros; done)))
  | ((with_reducible apply EV.i_enL); (focus (and_intros; done)))
  | ((with_reducible apply EV.i_rr1); (focus (and_intros; done)); omega)
  | ((with_reducible apply EV.i_ET); (focus (and_intros; done)))
  | ((with_reducible apply EV.i_E); (focus (and_intros; done)))
  | ((with_reducible apply EV.i_EO); (focus (and_intros; done)); (focus (and_intros; done)))
  | with_reducible apply EV.t_nm
  | with_reducible apply EV.t_tup
  | with_reducible exact EV.sd_n
  | with_reducible apply EV.sd_c
  | with_reducible exact EV.stl_n
  | ((with_reducible apply EV.stl_o); (with_reducible apply EV.get_of); exact rfl)
  | ((with_reducible apply EV.l_intR); (intro _ _; with_reducible apply EV.lt_y))
  | ((with_reducible apply EV.l_int); (intro _ _; with_reducible apply EV.lt_y))
  | with_reducible apply EV.t_B
  | with_reducible apply EV.t_V
  | with_reducible apply EV.t_not
  | with_reducible apply EV.t_and
  | with_reducible apply EV.t_or
  | ((with_reducible apply EV.orT_f); (focus infer_instance))
  | ((with_reducible apply EV.orT_t); (focus infer_instance))
  | ((with_reducible apply EV.andT_t); (focus infer_instance))
  | ((with_reducible apply EV.andT_f); (focus infer_instance))
  | with_reducible exact EV.tr_b
  | with_reducible exact EV.tr_T
  | with_reducible exact EV.tr_L
  | with_reducible exact EV.tr_i
  | with_reducible exact EV.tr_n
  | with_reducible apply EV.s_if
  | ((with_reducible apply EV.if_t); (focus infer_instance))
  | ((with_reducible apply EV.if_f); (focus infer_instance))
  | with_reducible exact EV.s_pass
  | with_reducible exact EV.s_brk
  | with_reducible exact EV.s_cnt
  | with_reducible exact EV.s_retN
  | with_reducible apply EV.s_ret
  | with_reducible apply EV.s_ex
  | with_reducible apply EV.s_unp
  | with_reducible apply EV.s_par
  | with_reducible exact EV.pe_n
  | with_reducible apply EV.pe_c
  | with_reducible exact EV.sr_n
  | with_reducible apply EV.sr_c
  | ((with_reducible apply EV.s_appI); ((with_reducible apply EV.ow_o); (with_reducible apply EV.get_of); exact rfl); (focus (and_intros; done)); ((with_reducible apply EV.get_of); exact rfl))
  | ((with_reducible apply EV.s_appO); ((with_reducible apply EV.ow_o); (with_reducible apply EV.get_of); exact rfl))
  | ((with_reducible apply EV.s_augI); ((with_reducible apply EV.get_of); exact rfl))
  | ((with_reducible apply EV.s_setIxN); (focus (and_intros; done)); (focus ((with_reducible apply EV.ow_o); (with_reducible apply EV.get_of); exact rfl)); (focus (and_intros; done)); (focus ((with_reducible apply EV.get_of); exact rfl)); (focus (first | assumption | omega)))
  | ((with_reducible apply EV.s_setIxI); (focus (and_intros; done)); (focus ((with_reducible apply EV.ow_o); (with_reducible apply EV.get_of); exact rfl)); (focus (and_intros; done)); (focus ((with_reducible apply EV.get_of); exact rfl)); (focus (first | assumption | omega)))
  | ((with_reducible apply EV.s_augIxN); (focus ((with_reducible apply EV.ow_o); (with_reducible apply EV.get_of); exact rfl)); (focus (and_intros; done)); (focus ((with_reducible apply EV.get_of); exact rfl)); (focus (and_intros; done)); (focus ((with_reducible apply EV.get_of); exact rfl)); (focus (first | assumption | omega)))
  | ((with_reducible apply EV.s_pop); (focus ((with_reducible apply EV.get_of); exact rfl)); (focus assumption))
  | ((with_reducible apply EV.s_setIx); (focus (and_intros; done)); ((with_reducible apply EV.ow_o); (with_reducible apply EV.get_of); exact rfl); (focus (and_intros; done)); ((with_reducible apply EV.get_of); exact rfl))
  | with_reducible apply EV.s_for
  | with_reducible apply EV.s_while
  | with_reducible apply EV.e_not
  | with_reducible apply EV.e_and
  | with_reducible apply EV.e_or
  | ((with_reducible apply EV.andV_t); (focus infer_instance))
  | ((with_reducible apply EV.andV_f); (focus infer_instance))
  | ((with_reducible apply EV.orV_f); (focus infer_instance))
  | ((with_reducible apply EV.orV_t); (focus infer_instance))
  | with_reducible apply EV.e_ite
  | ((with_reducible apply EV.iteV_t); (focus infer_instance))
  | ((with_reducible apply EV.iteV_f); (focus infer_instance))
  | (with_reducible apply EV.e_chain)
  | ((with_reducible apply EV.chK_t); (focus infer_instance))
  | ((with_reducible apply EV.chK_f); (focus infer_instance))
  | (with_reducible apply EV.e_sl)
  | with_reducible exact EV.pn
  | with_reducible apply EV.ps
  | with_reducible exact EV.cut_to1
  | with_reducible exact EV.cut_to1L
  | with_reducible exact EV.cut_fr1
  | with_reducible exact EV.cut_fr1L
  | with_reducible exact EV.cut_toT
  | with_reducible exact EV.cut_toL
  | with_reducible exact EV.cut_frT
  | with_reducible exact EV.cut_frL
  | with_reducible exact EV.cut_lastT
  | with_reducible exact EV.cut_last1
  | with_reducible exact EV.cut_last1L
  | ((with_reducible apply EV.cut_toI); first | assumption | omega)
  | ((with_reducible apply EV.cut_frI); first | assumption | omega)
  | with_reducible exact EV.cut_lastL
  | with_reducible exact EV.or_n
  | with_reducible exact EV.or_r
  | ((with_reducible apply EV.or_of); exact rfl)
  | ((with_reducible apply EV.or_bt); focus infer_instance)
  | ((with_reducible apply EV.bo_nf); focus infer_instance)
  | ((with_reducible apply EV.bo_nt); focus infer_instance)))
theorem I_is_between (n : Nat) (v a b : Int) : run (n + 1) "is_between" none [.int v, .int a, .int b] = some (.dat (.bool (decide (a ≤ v ∧ v ≤ b))), none) := by
  rw [run_is_between]
  simp [F_is_between]
  split <;> simp_all <;> omega
theorem I_are_numbers (n : Nat) (p most : Int) (xs : List Int) (hl : xs.length ≤ 1000) : run (n + 2) "are_numbers" none [.int p, iT xs, .int most] = some (.dat (.bool (numsB p most xs)), none) := by
  rw [run_are_numbers]
  simp [F_are_numbers, numsB]
  by_cases h : most < (xs.length : Int)
  · simp [h]
  · have hs : xs.length ≤ 16000000 := by omega
    simp [h, hs]
    rw [lcGo_map .int (fun x => .bool (decide (0 ≤ x ∧ x ≤ p - 1))) rfl xs (fun x _ => by simp [I_is_between])]
    simp
theorem I_numbers_ok (n : Nat) {p most : Int} {xs : List Int} (h : nums p xs) (hl : (xs.length : Int) ≤ most) (h2 : most ≤ 1000) : run (n + 2) "are_numbers" none [.int p, iT xs, .int most] = some (.dat (.bool true), none) := by
  rw [I_are_numbers n p most xs (by omega), numsB_of h hl]
theorem I_check_prime (n : Nat) {p : Int} (h : isPrime p) : run (n + 2) "check_prime" none [.int p] = some (.dat .none, none) := by
  rw [run_check_prime]
  rcases h with rfl | rfl | rfl | rfl <;> simp [F_check_prime, I_is_between, intsOf]
theorem I_check_number (n : Nat) {v a b : Int} (h1 : a ≤ v) (h2 : v ≤ b) : run (n + 2) "check_number" none [.int v, .int a, .int b] = some (.dat .none, none) := by
  have e := I_is_between n v a b
  rw [decide_eq_true ⟨h1, h2⟩] at e
  apply go_check_number
  and_intros
theorem I_taken (n : Nat) {ns : List Int} {xs : List D} (h : RowOk ns xs) {m : Int} (hm : okM m) : ∃ k xs', run (n + 1) "_law_taken" (some xs) [.int m] = some (.dat (.int k), some xs') ∧ (0 ≤ k ∧ k < m) ∧ RowOk ns xs' := by
  obtain ⟨a, b, c, rfl, ha⟩ := h
  obtain ⟨h0, h1⟩ := hm
  rw [run__law_taken]
  have hm : ∀ x : Int, 0 ≤ x % m ∧ x % m < m := fun x => ⟨Int.emod_nonneg _ (by omega), Int.emod_lt_of_pos _ h0⟩
  by_cases hc : 0 < c
  · refine ⟨c % m, [scr ns, .int a, .int b, .int (c / m)], ?_, hm c, a, b, c / m, rfl, ha⟩
    simp [F__law_taken, atD4_0, atD4_1, atD4_2, atD4_3, ixN4_1, ixN4_2, ixN4_3, hc, h0, h1]
  · by_cases hl : (ns.length : Int) < a + 1
    · refine ⟨((b * 48271 + 11) % 2147483647 / 7) % m, [scr ns, .int (a + 1), .int ((b * 48271 + 11) % 2147483647), .int c], ?_, hm _, a + 1, _, c, rfl, by omega⟩
      simp [F__law_taken, atD4_0, atD4_1, atD4_2, atD4_3, ixN4_1, ixN4_2, ixN4_3, hc, h0, h1, scr, hl]
    · obtain ⟨a', rfl⟩ : ∃ a' : Nat, (a' : Int) = a := ⟨a.toNat, by omega⟩
      have hl' : a' < ns.length := by omega
      have e1 : IP.ixN ns.length (a' : Int) = some a' := ixN_nat hl'
      obtain ⟨v, e2⟩ : ∃ v, ns[a']? = some v := ⟨ns[a'], List.getElem?_eq_getElem hl'⟩
      by_cases hv : 1000000000000000000 ≤ v
      · refine ⟨v % m, [scr ns, .int ((a' : Int) + 1), .int ((b * 48271 + v + 11) % 2147483647), .int (v / m)], ?_, hm _, _, _, _, rfl, by omega⟩
        simp [F__law_taken, atD4_0, atD4_1, atD4_2, atD4_3, ixN4_1, ixN4_2, ixN4_3, hc, h0, h1, scr, hl, e1, e2, hv]
      · refine ⟨v % m, [scr ns, .int ((a' : Int) + 1), .int ((b * 48271 + v + 11) % 2147483647), .int c], ?_, hm _, _, _, _, rfl, by omega⟩
        simp [F__law_taken, atD4_0, atD4_1, atD4_2, atD4_3, ixN4_1, ixN4_2, ixN4_3, hc, h0, h1, scr, hl, e1, e2, hv]
theorem I_pick (n : Nat) {ns : List Int} {xs : List D} (h : RowOk ns xs) {cs : List Int} (h0 : 0 < cs.length) (h1 : cs.length < 1073741824) : ∃ v xs', run (n + 2) "_law_pick" (some xs) [iL cs] = some (.dat (.int v), some xs') ∧ v ∈ cs ∧ RowOk ns xs' := by
  obtain ⟨k, xs1, e1, hk, hx1⟩ := I_taken n h (m := cs.length) (okM_s (by omega) (by omega))
  obtain ⟨k', rfl⟩ : ∃ k' : Nat, (k' : Int) = k := ⟨k.toNat, by omega⟩
  have hl : k' < cs.length := by omega
  have e2 : IP.ixN cs.length (k' : Int) = some k' := ixN_nat hl
  have e3 : cs[k']? = some cs[k'] := List.getElem?_eq_getElem hl
  refine ⟨cs[k'], xs1, ?_, List.getElem_mem hl, hx1⟩
  rw [run__law_pick]
  simp [F__law_pick, e1, e2, e3]
theorem I_prime (n : Nat) {ns : List Int} {xs : List D} (h : RowOk ns xs) : ∃ p xs', run (n + 3) "_law_prime" (some xs) [] = some (.dat (.int p), some xs') ∧ isPrime p ∧ RowOk ns xs' := by
  obtain ⟨v, xs1, e1, hv, hx1⟩ := I_pick n h (cs := [2, 2, 3, 5, 7]) (by decide) (by decide)
  simp only [iL, List.map_cons, List.map_nil] at e1
  refine ⟨v, xs1, ?_, ?_, hx1⟩
  · rw [run__law_prime]
    simp [F__law_prime, e1, line]
  · simp at hv
    unfold isPrime
    omega
theorem alike_seq (n : Nat) {d : D} {ds : List D} (hd : d = .tuple ds ∨ d = .list ds) (hl : ds.length ≤ 1000000) (h : ∀ k, k < ds.length → run (n + 1) "_law_alike" none [ds.getD k .none, ds.getD k .none] = some (.dat (.bool true), none)) : run (n + 2) "_law_alike" none [d, d] = some (.dat (.bool true), none) := by
  have hb : biLen [d] = some (.dat (.int (ds.length : Int))) := by rcases hd with rfl | rfl <;> rfl
  have e1 : vLc [2] (iRange1 (oV (vBi biLen (aCons (oVar 1) aNil)))) (.nm 2) (W__law_alike_2 (run (n + 1))) (W__law_alike_1 (run (n + 1))) [.dat d, .dat d, .un] = some (.new [], [.dat d, .dat d, .un]) := by
    have h := lcGo_pure (vs := [2]) (g := .nm 2) (t := W__law_alike_2 (run (n + 1))) (e := W__law_alike_1 (run (n + 1))) (src := (List.range ds.length).map EV.encN) (ow := none) (δ := [.dat d, .dat d, .un]) EV.encN (fun _ => none) rfl (List.range ds.length) (by
      intro k hk
      have hk' := List.mem_range.mp hk
      have e := h k hk'
      have hx : bIx d (.int (k : Int)) = some (.dat (ds.getD k .none)) := by
        rcases hd with rfl | rfl
        · exact EV.p_ixDT hk'
        · exact EV.p_ixDL hk'
      apply EV.lt_f
      and_intros)
    rw [List.filterMap_eq_nil_iff.mpr fun _ _ => rfl] at h
    apply EV.e_lc
    and_intros
  have u1 : uIs [.tuple, .list] d = some (.dat (.bool true)) := by rcases hd with rfl | rfl <;> rfl
  obtain ⟨b, u2⟩ : ∃ b, uIs [.list] d = some (.dat (.bool b)) := by
    rcases hd with rfl | rfl
    · exact ⟨false, rfl⟩
    · exact ⟨true, rfl⟩
  have u3 : bNe (.bool b) (.bool b) = some (.dat (.bool false)) := by
    rw [EV.p_neB]
    cases b <;> rfl
  have u4 : bNe (.int (ds.length : Int)) (.int (ds.length : Int)) = some (.dat (.bool false)) := by
    rw [EV.p_ne, decide_eq_true rfl]
    rfl
  apply go__law_alike
  and_intros
theorem I_alike_int (n : Nat) (v : Int) : run (n + 1) "_law_alike" none [.int v, .int v] = some (.dat (.bool true), none) := by
  rw [run__law_alike]
  simp [F__law_alike]
theorem I_alike_none (n : Nat) : run (n + 1) "_law_alike" none [.none, .none] = some (.dat (.bool true), none) := by
  rw [run__law_alike]
  simp [F__law_alike]
theorem I_alike_bool (n : Nat) (b : Bool) : run (n + 1) "_law_alike" none [.bool b, .bool b] = some (.dat (.bool true), none) := by
  rw [run__law_alike]
  simp [F__law_alike]
theorem I_alike (n : Nat) : ∀ (k : Nat) (d : D), EV.okA k d = true → run (n + k + 1) "_law_alike" none [d, d] = some (.dat (.bool true), none) := by
  intro k
  induction k with
  | zero =>
    intro d h
    cases d with
    | int v => exact I_alike_int n v
    | none => exact I_alike_none n
    | bool b => exact I_alike_bool n b
    | _ => simp [EV.okA] at h
  | succ k ih =>
    intro d h
    have seq : ∀ ds : List D, (d = .tuple ds ∨ d = .list ds) → ds.length ≤ 1000000 → ds.all (EV.okA k) = true → run (n + (k + 1) + 1) "_law_alike" none [d, d] = some (.dat (.bool true), none) := fun ds hd hl ha => alike_seq (n + k) hd hl fun j hj => ih _ (by
      have := List.all_eq_true.mp ha (ds[j]) (List.getElem_mem hj)
      simpa [List.getD, hj] using this)
    cases d with
    | int v => exact I_alike_int (n + (k + 1)) v
    | none => exact I_alike_none (n + (k + 1))
    | bool b => exact I_alike_bool (n + (k + 1)) b
    | tuple ds =>
      simp only [EV.okA, Bool.and_eq_true, decide_eq_true_eq] at h
      exact seq ds (.inl rfl) h.1 h.2
    | list ds =>
      simp only [EV.okA, Bool.and_eq_true, decide_eq_true_eq] at h
      exact seq ds (.inr rfl) h.1 h.2
    | _ => simp [EV.okA] at h
theorem I_alike_row (n : Nat) (xs : List Int) (hl : xs.length ≤ 1000000) : run (n + 2) "_law_alike" none [iT xs, iT xs] = some (.dat (.bool true), none) := I_alike n 1 _ (EV.okA_row hl)
theorem I_alike_rowL (n : Nat) (xs : List Int) (hl : xs.length ≤ 1000000) : run (n + 2) "_law_alike" none [iL xs, iL xs] = some (.dat (.bool true), none) := I_alike n 1 _ (EV.okA_rowL hl)
theorem I_alike_two (n : Nat) (xs ys : List Int) (hl : xs.length ≤ 1000000) (hl2 : ys.length ≤ 1000000) : run (n + 3) "_law_alike" none [.tuple [iT xs, iT ys], .tuple [iT xs, iT ys]] = some (.dat (.bool true), none) := I_alike n 2 _ (by
  have h1 := EV.okA_row (k := 0) hl
  have h2 := EV.okA_row (k := 0) hl2
  simp only [EV.okA, List.length_cons, List.length_nil, List.all_cons, List.all_nil] at h1 h2 ⊢
  simp only [h1, h2]
  simp)
theorem I_inverse (n : Nat) {p l : Int} {m : Nat} (hp : isPrime p) (h : IsInv p l m) : run (n + 1) "inverse" none [.int p, .int l] = some (.dat (.int (m : Int)), none) := by
  have pp := prime_pos hp
  obtain ⟨m1, m6, h1, h2⟩ := h
  have key : ∀ (k o fuel : Nat), o + k = m → 1 ≤ o → k < fuel → whileGo (tB (fBin bNe (oV (fBin bMod (oV (fBin bMul (oVar 1) (oVar 2))) (oVar 0))) (oV (vC (.int 1))))) (W_inverse_1 (run n)) fuel [.dat (.int p), .dat (.int l), .dat (.int (o : Int))] = some (.nx, [.dat (.int p), .dat (.int l), .dat (.int (m : Int))]) := by
    intro k
    induction k with
    | zero =>
      intro o fuel e ho hf
      obtain rfl : o = m := by omega
      obtain ⟨f, rfl⟩ : ∃ f, fuel = f + 1 := ⟨fuel - 1, by omega⟩
      have t : tB (fBin bNe (oV (fBin bMod (oV (fBin bMul (oVar 1) (oVar 2))) (oVar 0))) (oV (vC (.int 1)))) [.dat (.int p), .dat (.int l), .dat (.int (o : Int))] = some (!decide (l * (o : Int) % p = 1), [.dat (.int p), .dat (.int l), .dat (.int (o : Int))]) := by and_intros
      rw [whileGo, t, decide_eq_true h1]
      rfl
    | succ k ih =>
      intro o fuel e ho hf
      obtain ⟨f, rfl⟩ : ∃ f, fuel = f + 1 := ⟨fuel - 1, by omega⟩
      have t : tB (fBin bNe (oV (fBin bMod (oV (fBin bMul (oVar 1) (oVar 2))) (oVar 0))) (oV (vC (.int 1)))) [.dat (.int p), .dat (.int l), .dat (.int (o : Int))] = some (!decide (l * (o : Int) % p = 1), [.dat (.int p), .dat (.int l), .dat (.int (o : Int))]) := by and_intros
      have b : W_inverse_1 (run n) [.dat (.int p), .dat (.int l), .dat (.int (o : Int))] = some (.nx, [.dat (.int p), .dat (.int l), .dat (.int ((o : Int) + 1))]) := by and_intros
      have ne := h2 o ho (by omega)
      rw [whileGo, t, decide_eq_false ne]
      simp only [Option.bind_some, Bool.not_false, if_true, b]
      exact ih (o + 1) f (by omega) (by omega) (by omega)
  have key := key (m - 1) 1 turns (by omega) (by omega) (by unfold turns; omega)
  rw [show ((1 : Nat) : Int) = 1 from rfl] at key
  apply go_inverse
  and_intros
theorem I_first_figure (n : Nat) {p l a : Int} {m : Nat} (hp : isPrime p) (h : IsInv p l m) : run (n + 2) "_first_figure" none [.int p, .int a, .int l] = some (.dat (.int (ff p a m)), none) := by
  have pp := prime_pos hp
  have e := I_inverse n hp h
  have h6 : (m : Int) ≤ 6 := by have := h.2.1; omega
  apply go__first_figure
  and_intros
theorem I_rest_above (n : Nat) {p l a : Int} {m : Nat} (hp : isPrime p) (h : IsInv p l m) : run (n + 3) "rest_above" none [.int p, .int a, .int l] = some (.dat (.int ((a - ff p a m * l) / p)), none) := by
  have pp := prime_pos hp
  have e := I_first_figure n (a := a) hp h
  have hb := ff_bd hp a m
  apply go_rest_above
  and_intros
theorem figs_step (n : Nat) {p l : Int} {m : Nat} (hp : isPrime p) (h : IsInv p l m) (c : D) : ∀ (L : List Nat) (row : List Int) (a : Int) (t : Slot), EV.Free t → row.length + L.length ≤ 1000 → ∃ t' a', forGo (.nm 5) (W_figures_of_1 (run (n + 3))) (L.map EV.encN) [.dat (.int p), .dat (.int a), .dat (.int l), .dat c, .own (row.map .int), t] = some (.nx, [.dat (.int p), .dat (.int a'), .dat (.int l), .dat c, .own ((row ++ figs p l m L.length a).map .int), t'])
  | [], row, a, t, _, _ => ⟨t, a, by simp [forGo, figs]⟩
  | u :: L, row, a, t, ht, hl => by
    have e1 := I_first_figure (n + 1) (a := a) hp h
    have e2 := I_rest_above n (a := a) hp h
    have hl' : row.length < 16000000 := by simp at hl; omega
    obtain ⟨t', a', ih⟩ := figs_step n hp h c L (row ++ [ff p a m]) ((a - ff p a m * l) / p) (.dat (EV.encN u)) EV.fr_d (by simp at hl ⊢; omega)
    refine ⟨t', a', ?_⟩
    have b : W_figures_of_1 (run (n + 3)) [.dat (.int p), .dat (.int a), .dat (.int l), .dat c, .own (row.map .int), .dat (EV.encN u)] = some (.nx, [.dat (.int p), .dat (.int ((a - ff p a m * l) / p)), .dat (.int l), .dat c, .own ((row ++ [ff p a m]).map .int), .dat (EV.encN u)]) := by and_intros
    have g : (Tg.nm 5).put (EV.encN u) [.dat (.int p), .dat (.int a), .dat (.int l), .dat c, .own (row.map .int), t] = some [.dat (.int p), .dat (.int a), .dat (.int l), .dat c, .own (row.map .int), .dat (EV.encN u)] := by and_intros
    rw [List.map_cons, forGo, g]
    simp only [Option.bind_some, b, ih]
    rw [List.length_cons, figs, List.append_assoc]
    rfl
theorem I_figures (n : Nat) {p l : Int} {m : Nat} (hp : isPrime p) (h : IsInv p l m) (a : Int) (k : Nat) (hk : k ≤ 1000) : run (n + 4) "figures_of" none [.int p, .int a, .int l, .int (k : Int)] = some (.dat (iT (figs p l m k a)), none) := by
  obtain ⟨t', a', e⟩ := figs_step n hp h (.int (k : Int)) (List.range k) [] a .un EV.fr_u (by simp; omega)
  rw [List.length_range, List.nil_append] at e
  simp only [List.map_nil] at e
  apply go_figures_of
  and_intros
theorem value_loop (n : Nat) {p : Int} (hp : isPrime p) (d : D) (L : List Int) : ∃ t', forGo (.nm 3) (W_value_of_1 (run n)) (L.map .int) [.dat (.int p), .dat d, .dat (.int 0), .un] = some (.nx, [.dat (.int p), .dat d, .dat (.int (L.foldl (fun v x => v * p + x) 0)), t']) := by
  have pp := prime_pos hp
  obtain ⟨t', _, _, e⟩ := EV.f_loop (g := .nm 3) (bb := W_value_of_1 (run n)) (enc := PyData.int) (fun (v : Int) t => [.dat (.int p), .dat d, .dat (.int v), t]) (fun v x => v * p + x) (fun _ => True) L 0 .un EV.fr_u trivial (by
    intro s u t hu ht _
    refine ⟨trivial, ?_⟩
    apply EV.st_nx (δ1 := [.dat (.int p), .dat d, .dat (.int s), .dat (.int u)]) (δ2 := [.dat (.int p), .dat d, .dat (.int (s * p + u)), .dat (.int u)])
    · and_intros
    · and_intros
    · exact ⟨_, EV.fr_d, rfl⟩)
  exact ⟨t', e⟩
theorem I_value_of (n : Nat) {p : Int} (hp : isPrime p) (row : List Int) : run (n + 1) "value_of" none [.int p, iT row] = some (.dat (.int (val p row)), none) := by
  obtain ⟨t', e⟩ := value_loop n hp (iT row) row.reverse
  rw [val_rev] at e
  apply go_value_of
  and_intros
theorem I_check_taps (n : Nat) {p : Int} {xs : List Int} (h : nums p xs) (hl : xs.length ≤ 60) : run (n + 3) "check_taps" none [.int p, iT xs] = some (.dat .none, none) := by
  have e := I_numbers_ok n (most := 60) h (by omega) (by omega)
  apply go_check_taps
  and_intros
theorem I_check_start (n : Nat) {p : Int} {ts xs : List Int} (h : nums p xs) (hl : xs.length = ts.length) (hl2 : ts.length ≤ 60) : run (n + 4) "check_start" none [.int p, iT ts, iT xs] = some (.dat .none, none) := by
  have e := I_numbers_ok n (most := (ts.length : Int)) h (by omega) (by omega)
  have e2 : run (n + 3) "are_so_many" none [.int p, iT xs, .int (ts.length : Int)] = some (.dat (.bool true), none) := by
    have hl' : (xs.length : Int) = (ts.length : Int) := by omega
    apply go_are_so_many
    and_intros
  apply go_check_start
  and_intros
theorem I_check_wired (n : Nat) {p : Int} {ts xs : List Int} (hp : isPrime p) (ht : nums p ts) (h : nums p xs) (hl : xs.length = ts.length) (hl2 : ts.length ≤ 60) : run (n + 5) "check_wired" none [.int p, iT ts, iT xs] = some (.dat .none, none) := by
  have e1 := I_check_prime (n + 2) hp
  have e2 := I_check_taps (n + 1) ht hl2
  have e3 := I_check_start n h hl hl2
  apply go_check_wired
  and_intros
theorem I_law_taps (n : Nat) {ns : List Int} {xs : List D} (hx : RowOk ns xs) {p m : Int} (hp : okM p) (hm0 : 0 ≤ m) (hm : m < 100000) : ∃ (a b : List Int) (xs' : List D), run (n + 2) "_law_taps" (some xs) [.int p, .int m] = some (.dat (.tuple [iT a, iT b]), some xs') ∧ nums p a ∧ nums p b ∧ b.length = a.length ∧ (a.length : Int) ≤ m ∧ RowOk ns xs' := by
  obtain ⟨k, x1, d1, hk, hx1⟩ := I_taken n hx (m := m + 1) (okM_s (by omega) (by omega))
  obtain ⟨c, rfl⟩ : ∃ c : Nat, (c : Int) = k := ⟨k.toNat, by omega⟩
  have dr : Draws (run (n + 1) "_law_taken") ns p := fun xs hx => I_taken n hx hp
  obtain ⟨a, x2, l1, hl1, hn1, hx2⟩ := lc_draws dr (v := 5) (e := W__law_taps_1 (run (n + 1))) (fun xs => [.prm xs, .dat (.int p), .dat (.int m), .dat (.int (c : Int)), .un, .un]) (fun xs d => [.prm xs, .dat (.int p), .dat (.int m), .dat (.int (c : Int)), .un, .dat d])
    (fun xs d => by and_intros) (fun xs d k xs' h => by and_intros) (fun xs d => by and_intros) ((List.range c).map EV.encN) ((List.range c).map EV.encN) x1 hx1
  obtain ⟨b, x3, l2, hl2, hn2, hx3⟩ := lc_draws dr (v := 5) (e := W__law_taps_2 (run (n + 1))) (fun xs => [.prm xs, .dat (.int p), .dat (.int m), .dat (.int (c : Int)), .dat (iT a), .un]) (fun xs d => [.prm xs, .dat (.int p), .dat (.int m), .dat (.int (c : Int)), .dat (iT a), .dat d])
    (fun xs d => by and_intros) (fun xs d k xs' h => by and_intros) (fun xs d => by and_intros) ((List.range c).map EV.encN) ((List.range c).map EV.encN) x2 hx2
  simp only [List.length_map, List.length_range] at hl1 hl2
  have h2 : 2 ≤ 16000000 := by omega
  refine ⟨a, b, x3, ?_, hn1, hn2, by omega, by omega, hx3⟩
  apply go__law_taps
  and_intros
end IPL
end
section
set_option linter.all false
set_option maxRecDepth 20000
set_option maxHeartbeats 1000000
namespace IPL
open IP
open PySem (PyData)
local macro_rules | `(tactic| infer_instance) => `(tactic| ((repeat' (first | with_reducible exact rfl | with_reducible assumption | with_reducible apply EV.bo_nt | with_reducible apply EV.bo_nf | with_reducible refine decide_eq_true ?_ | with_reducible refine decide_eq_false ?_ | with_reducible apply EV.bne_t | with_reducible apply EV.bne_f | omega)); done))
local macro_rules | `(tactic| and_intros) => `(tactic| repeat' (first
  | ((with_reducible apply EV.prop_of); with_reducible assumption)
  | with_reducible apply EV.s_seq
  | with_reducible exact EV.q_rt
  | with_reducible apply EV.q_nx
  | with_reducible exact EV.q_bk
  | with_reducible exact EV.q_ct
  | with_reducible apply EV.s_set
  | with_reducible apply EV.o_V
  | with_reducible exact EV.td_d
  | with_reducible exact EV.td_n
  | with_reducible exact EV.so_d
  | with_reducible exact EV.so_n
  | with_reducible exact EV.rd_v
  | with_reducible apply EV.rd_o
  | with_reducible apply EV.rd_p
  | with_reducible exact EV.e_C
  | ((with_reducible apply EV.o_var); (with_reducible apply EV.get_of); exact rfl)
  | ((with_reducible apply EV.o_own); (with_reducible apply EV.get_of); exact rfl)
  | ((with_reducible apply EV.o_prm); (with_reducible apply EV.get_of); exact rfl)
  | ((with_reducible apply EV.e_var); (with_reducible apply EV.get_of); exact rfl)
  | ((with_reducible apply EV.e_varO); ((with_reducible apply EV.get_of); exact rfl))
  | ((with_reducible apply EV.get_of); exact rfl)
  | with_reducible exact EV.st_0u
  | with_reducible exact EV.st_0d
  | with_reducible exact EV.st_0o
  | ((with_reducible apply EV.st_0f); first | assumption | exact EV.fr_d | exact EV.fr_u)
  | with_reducible apply EV.st_s
  | with_reducible exact EV.ls_0
  | with_reducible apply EV.ls_s
  | with_reducible apply EV.e_bin
  | with_reducible exact EV.p_add
  | with_reducible exact EV.p_sub
  | ((with_reducible apply EV.p_mod); first | assumption | omega)
  | ((with_reducible apply EV.p_repL) <;> omega)
  | ((with_reducible apply EV.p_repT) <;> omega)
  | ((with_reducible apply EV.p_mulL); first | assumption | omega)
  | ((with_reducible apply EV.p_mulR); first | assumption | omega)
  | ((with_reducible apply EV.p_mulB); first | assumption | omega)
  | ((with_reducible apply EV.p_fdiv) <;> first | assumption | omega)
  | ((with_reducible apply EV.p_fdivB) <;> first | assumption | omega)
  | with_reducible exact EV.p_pow12
  | with_reducible exact EV.p_pow17
  | with_reducible exact EV.p_pow60
  | with_reducible exact EV.p_pow15
  | with_reducible exact EV.p_pow18
  | with_reducible exact EV.p_lt
  | with_reducible exact EV.p_le
  | with_reducible exact EV.p_gt
  | with_reducible exact EV.p_ge
  | with_reducible exact EV.p_eq
  | with_reducible exact EV.p_ne
  | with_reducible exact EV.is_ii
  | with_reducible exact EV.is_bi
  | with_reducible exact EV.is_tt
  | with_reducible exact EV.is_tl
  | with_reducible exact EV.is_lt
  | with_reducible exact EV.is_ll
  | with_reducible exact EV.uisn
  | with_reducible exact EV.uisn_i
  | with_reducible exact EV.uisn_t
  | with_reducible exact EV.unn
  | with_reducible exact EV.unn_i
  | with_reducible exact EV.unn_t
  | with_reducible exact IPL.p_eqT
  | with_reducible exact IPL.p_neT
  | with_reducible exact IPL.p_eqT1
  | with_reducible exact IPL.p_neT1
  | with_reducible exact IPL.p_eqL
  | with_reducible exact IPL.p_neL
  | with_reducible exact IPL.p_eqL0
  | with_reducible exact IPL.p_eqT0
  | with_reducible exact IPL.p_neT0
  | with_reducible exact IPL.p_eqL1
  | with_reducible exact IPL.p_neL1
  | with_reducible exact IPL.p_eqTT
  | with_reducible exact IPL.p_neTT
  | with_reducible exact IPL.p_eqLT
  | with_reducible exact IPL.p_neLT
  | with_reducible exact IPL.p_neL0
  | with_reducible exact EV.p_eqB
  | with_reducible exact EV.p_neB
  | ((with_reducible apply EV.p_xor) <;> first | assumption | omega)
  | with_reducible exact EV.p_shrN
  | with_reducible exact EV.p_and1
  | with_reducible exact EV.p_bitsN
  | ((with_reducible apply EV.p_and) <;> first | assumption | omega)
  | ((with_reducible apply EV.p_ix0); first | assumption | omega)
  | with_reducible exact EV.p_ix20
  | with_reducible exact EV.p_ix21
  | with_reducible exact EV.p_ix30
  | with_reducible exact EV.p_ix31
  | with_reducible exact EV.p_ix32
  | ((with_reducible apply EV.p_ixLastT); assumption)
  | ((with_reducible apply EV.p_ixNegT); first | assumption | omega)
  | ((with_reducible apply EV.p_ixNegL); first | assumption | omega)
  | ((with_reducible apply EV.p_ixT); first | assumption | omega)
  | ((with_reducible apply EV.p_ixL); first | assumption | omega)
  | ((with_reducible apply EV.p_ixT') <;> first | assumption | omega)
  | ((with_reducible apply EV.p_ixL') <;> first | assumption | omega)
  | ((with_reducible apply IPL.p_ixTT); first | assumption | omega)
  | ((with_reducible apply IPL.p_ixLT); first | assumption | omega)
  | ((with_reducible apply EV.p_ixDT); first | assumption | omega)
  | ((with_reducible apply EV.p_ixDL); first | assumption | omega)
  | ((with_reducible apply EV.p_addT); (with_reducible apply EV.line_of); first | assumption | omega)
  | ((with_reducible apply EV.p_addL); (with_reducible apply EV.line_of); first | assumption | omega)
  | ((with_reducible apply EV.p_addsL); first | assumption | omega)
  | ((with_reducible apply EV.p_addTs); (with_reducible apply EV.line_of); first | assumption | omega)
  | ((with_reducible apply EV.p_addsT); (with_reducible apply EV.line_of); first | assumption | omega)
  | with_reducible apply EV.e_un
  | with_reducible exact EV.p_neg
  | with_reducible exact EV.p_revT
  | with_reducible exact EV.p_tupRev
  | with_reducible exact EV.p_revL
  | with_reducible apply EV.e_bi
  | with_reducible exact EV.b_len2
  | with_reducible exact EV.b_len3
  | with_reducible exact EV.b_lenT
  | with_reducible exact EV.b_lenL
  | with_reducible exact EV.b_lenT'
  | with_reducible exact EV.b_lenL'
  | with_reducible exact EV.b_int
  | with_reducible exact EV.b_intB
  | with_reducible exact EV.b_tupL
  | with_reducible exact EV.b_tupT
  | with_reducible exact EV.b_lstL
  | with_reducible exact EV.b_lstT
  | with_reducible exact EV.b_sum
  | with_reducible exact EV.b_sum2L
  | with_reducible exact EV.b_sum2T
  | with_reducible apply EV.e_lc2
  | with_reducible exact EV.b_abs
  | with_reducible exact EV.b_max
  | with_reducible exact EV.b_min
  | with_reducible exact EV.b_gcd
  | with_reducible exact EV.a_n
  | with_reducible apply EV.a_c
  | with_reducible exact EV.ra_n
  | with_reducible apply EV.ra_c
  | with_reducible exact EV.vs_n
  | with_reducible apply EV.vs_c
  | ((with_reducible apply EV.e_call); (focus (and_intros; done)); (focus (and_intros; done)); ((with_reducible apply EV.any_of); exact rfl))
  | ((with_reducible apply EV.e_callD); (focus (and_intros; done)); (focus (and_intros; done)); (focus (and_intros; done)); first | exact EV.noT | exact EV.noI | exact EV.noB | exact EV.noN)
  | ((with_reducible apply EV.e_callRo); ((with_reducible apply EV.ow_o); (with_reducible apply EV.get_of); exact rfl))
  | ((with_reducible apply EV.e_callRp); ((with_reducible apply EV.ow_p); (with_reducible apply EV.get_of); exact rfl))
  | with_reducible apply EV.e_tup
  | with_reducible apply EV.e_lst
  | ((with_reducible apply EV.line_of); first | assumption | (simp only [List.length_map, List.length_range, List.length_append, List.length_cons, List.length_nil, List.length_reverse, List.length_zip, List.length_take, List.length_drop, List.length_dropLast]; omega))
  | ((with_reducible apply EV.line_lt); first | assumption | (simp only [List.length_map, List.length_range, List.length_append, List.length_cons, List.length_nil, List.length_reverse, List.length_zip, List.length_take, List.length_drop, List.length_dropLast]; omega))
  | with_reducible apply EV.e_lc
  | with_reducible exact EV.u_n
  | ((with_reducible apply EV.u_u); ((with_reducible apply EV.get_of); exact rfl))
  | ((with_reducible apply EV.u_d); ((with_reducible apply EV.get_of); exact rfl))
  | with_reducible exact EV.ba_n
  | ((with_reducible apply EV.ba_c); ((with_reducible apply EV.get_of); exact rfl))
  | ((with_reducible apply EV.i_r1); (focus (and_intros; done)); omega)
  | ((with_reducible apply EV.i_r1'); (focus (and_intros; done)); omega; omega)
  | ((with_reducible apply EV.i_r2); (focus (and_intros; done)); (focus (and_intros; done)); omega; omega; omega; omega)
  | ((with_reducible apply EV.i_rT); (focus (and_intros; done)))
  | ((with_reducible apply EV.i_rL); (focus (and_intros; done)))
  | ((with_reducible apply EV.i_zT); (focus (and_intros; done)); (focus (and_intros; done)))
  | ((with_reducible apply EV.i_zL); (focus (and_intros; done)); (focus (and_intros; done)))
  | ((with_reducible apply EV.i_enT); (focus (and_intros; done)))
  | ((with_reducible apply EV.i_enL); (focus (and_intros; done)))
  | ((with_reducible apply EV.i_rr1); (focus (and_intros; done)); omega)
  | ((with_reducible apply EV.i_ET); (focus (and_intros; done)))
  | ((with_reducible apply EV.i_E); (focus (and_intros; done)))
  | ((with_reducible apply EV.i_EO); (focus (and_intros; done)); (focus (and_intros; done)))
  | with_reducible apply EV.t_nm
  | with_reducible apply EV.t_tup
  | with_reducible exact EV.sd_n
  | with_reducible apply EV.sd_c
  | with_reducible exact EV.stl_n
  | ((with_reducible apply EV.stl_o); (with_reducible apply EV.get_of); exact rfl)
  | ((with_reducible apply EV.l_intR); (intro _ _; with_reducible apply EV.lt_y))
  | ((with_reducible apply EV.l_int); (intro _ _; with_reducible apply EV.lt_y))
  | with_reducible apply EV.t_B
  | with_reducible apply EV.t_V
  | with_reducible apply EV.t_not
  | with_reducible apply EV.t_and
  | with_reducible apply EV.t_or
  | ((with_reducible apply EV.orT_f); (focus infer_instance))
  | ((with_reducible apply EV.orT_t); (focus infer_instance))
  | ((with_reducible apply EV.andT_t); (focus infer_instance))
  | ((with_reducible apply EV.andT_f); (focus infer_instance))
  | with_reducible exact EV.tr_b
  | with_reducible exact EV.tr_T
  | with_reducible exact EV.tr_L
  | with_reducible exact EV.tr_i
  | with_reducible exact EV.tr_n
  | with_reducible apply EV.s_if
  | ((with_reducible apply EV.if_t); (focus infer_instance))
  | ((with_reducible apply EV.if_f); (focus infer_instance))
  | with_reducible exact EV.s_pass
  | with_reducible exact EV.s_brk
  | with_reducible exact EV.s_cnt
  | with_reducible exact EV.s_retN
  | with_reducible apply EV.s_ret
  | with_reducible apply EV.s_ex
  | with_reducible apply EV.s_unp
  | with_reducible apply EV.s_par
  | with_reducible exact EV.pe_n
  | with_reducible apply EV.pe_c
  | with_reducible exact EV.sr_n
  | with_reducible apply EV.sr_c
  | ((with_reducible apply EV.s_appI); ((with_reducible apply EV.ow_o); (with_reducible apply EV.get_of); exact rfl); (focus (and_intros; done)); ((with_reducible apply EV.get_of); exact rfl))
  | ((with_reducible apply EV.s_appO); ((with_reducible apply EV.ow_o); (with_reducible apply EV.get_of); exact rfl))
  | ((with_reducible apply EV.s_augI); ((with_reducible apply EV.get_of); exact rfl))
  | ((with_reducible apply EV.s_setIxN); (focus (and_intros; done)); (focus ((with_reducible apply EV.ow_o); (with_reducible apply EV.get_of); exact rfl)); (focus (and_intros; done)); (focus ((with_reducible apply EV.get_of); exact rfl)); (focus (first | assumption | omega)))
  | ((with_reducible apply EV.s_setIxI); (focus (and_intros; done)); (focus ((with_reducible apply EV.ow_o); (with_reducible apply EV.get_of); exact rfl)); (focus (and_intros; done)); (focus ((with_reducible apply EV.get_of); exact rfl)); (focus (first | assumption | omega)))
  | ((with_reducible apply EV.s_augIxN); (focus ((with_reducible apply EV.ow_o); (with_reducible apply EV.get_of); exact rfl)); (focus (and_intros; done)); (focus ((with_reducible apply EV.get_of); exact rfl)); (focus (and_intros; done)); (focus ((with_reducible apply EV.get_of); exact rfl)); (focus (first | assumption | omega)))
  | ((with_reducible apply EV.s_pop); (focus ((with_reducible apply EV.get_of); exact rfl)); (focus assumption))
  | ((with_reducible apply EV.s_setIx); (focus (and_intros; done)); ((with_reducible apply EV.ow_o); (with_reducible apply EV.get_of); exact rfl); (focus (and_intros; done)); ((with_reducible apply EV.get_of); exact rfl))
  | with_reducible apply EV.s_for
  | with_reducible apply EV.s_while
  | with_reducible apply EV.e_not
  | with_reducible apply EV.e_and
  | with_reducible apply EV.e_or
  | ((with_reducible apply EV.andV_t); (focus infer_instance))
  | ((with_reducible apply EV.andV_f); (focus infer_instance))
  | ((with_reducible apply EV.orV_f); (focus infer_instance))
  | ((with_reducible apply EV.orV_t); (focus infer_instance))
  | with_reducible apply EV.e_ite
  | ((with_reducible apply EV.iteV_t); (focus infer_instance))
  | ((with_reducible apply EV.iteV_f); (focus infer_instance))
  | (with_reducible apply EV.e_chain)
  | ((with_reducible apply EV.chK_t); (focus infer_instance))
  | ((with_reducible apply EV.chK_f); (focus infer_instance))
  | (with_reducible apply EV.e_sl)
  | with_reducible exact EV.pn
  | with_reducible apply EV.ps
  | with_reducible exact EV.cut_to1
  | with_reducible exact EV.cut_to1L
  | with_reducible exact EV.cut_fr1
  | with_reducible exact EV.cut_fr1L
  | with_reducible exact EV.cut_toT
  | with_reducible exact EV.cut_toL
  | with_reducible exact EV.cut_frT
  | with_reducible exact EV.cut_frL
  | with_reducible exact EV.cut_lastT
  | with_reducible exact EV.cut_last1
  | with_reducible exact EV.cut_last1L
  | ((with_reducible apply EV.cut_toI); first | assumption | omega)
  | ((with_reducible apply EV.cut_frI); first | assumption | omega)
  | with_reducible exact EV.cut_lastL
  | with_reducible exact EV.or_n
  | with_reducible exact EV.or_r
  | ((with_reducible apply EV.or_of); exact rfl)
  | ((with_reducible apply EV.or_bt); focus infer_instance)
  | ((with_reducible apply EV.bo_nf); focus infer_instance)
  | ((with_reducible apply EV.bo_nt); focus infer_instance)))
abbrev M60 : Int := 1000000000000000000000000000000000000000000000000000000000000
theorem I_check_fraction (n : Nat) {p a l : Int} (hp : isPrime p) (h1 : -M60 ≤ a) (h2 : a ≤ M60) (h3 : 1 ≤ l) (h4 : l ≤ M60) (h5 : l % p ≠ 0) : run (n + 3) "check_fraction" none [.int p, .tuple [.int a, .int l]] = some (.dat .none, none) := by
  have pp := prime_pos hp
  have e1 := I_check_prime n hp
  have e2 := I_is_between (n + 1) a (-1000000000000000000000000000000000000000000000000000000000000) 1000000000000000000000000000000000000000000000000000000000000
  have e3 := I_is_between (n + 1) l 1 1000000000000000000000000000000000000000000000000000000000000
  rw [decide_eq_true ⟨h1, h2⟩] at e2
  rw [decide_eq_true ⟨h3, h4⟩] at e3
  apply go_check_fraction
  and_intros
theorem I_fraction_row (n : Nat) {p a l : Int} (hp : isPrime p) (h1 : -M60 ≤ a) (h2 : a ≤ M60) (h3 : 1 ≤ l) (h4 : l ≤ M60) (h5 : l % p ≠ 0) {m : Nat} (hm : IsInv p l m) {k : Nat} (hk : k ≤ 400) :
    run (n + 5) "fraction_row" none [.int p, .tuple [.int a, .int l], .int (k : Int)] = some (.dat (iT (figs p l m k a)), none) := by
  have e0 := I_check_prime (n + 2) hp
  have e1 := I_check_fraction (n + 1) hp h1 h2 h3 h4 h5
  have e2 := I_check_number (n + 2) (v := k) (a := 0) (b := 400) (by omega) (by omega)
  have e3 := I_figures n hp hm a k (by omega)
  apply go_fraction_row
  and_intros
theorem half_bit (e k : Nat) : e / 2 ^ k = 2 * (e / 2 ^ (k + 1)) + e / 2 ^ k % 2 := by
  rw [Nat.pow_succ, ← Nat.div_div_eq_div_mul]
  omega
theorem power_of_loop (n : Nat) {p : Int} (hp : isPrime p) (e : Nat) (he : e ≤ 10000) : ∀ (k : Nat) (t3 : Slot), EV.Free t3 →
    ∃ t3' : Slot, forGo (.nm 3) (W_power_of_1 (run n)) ((List.range k).reverse.map EV.encN) [.dat (.int p), .dat (.int (e : Int)), .dat (.int (p ^ (e / 2 ^ k))), t3] = some (.nx, [.dat (.int p), .dat (.int (e : Int)), .dat (.int (p ^ e)), t3'])
  | 0, t3, _ => ⟨t3, by simp [forGo]⟩
  | k + 1, t3, f3 => by
    have pp := prime_pos hp
    have hle : e / 2 ^ (k + 1) ≤ e := Nat.div_le_self _ _
    have hb1 := (ub_pow hp (e / 2 ^ (k + 1))).log (by omega)
    have hg : (Tg.nm 3).put (EV.encN k) [.dat (.int p), .dat (.int (e : Int)), .dat (.int (p ^ (e / 2 ^ (k + 1)))), t3] = some [.dat (.int p), .dat (.int (e : Int)), .dat (.int (p ^ (e / 2 ^ (k + 1)))), .dat (.int (k : Int))] := by and_intros
    rw [List.range_succ, List.reverse_append, List.reverse_cons, List.reverse_nil, List.nil_append, List.singleton_append, List.map_cons, forGo, hg]
    simp only [Option.bind_some]
    obtain ⟨t3', ih⟩ := power_of_loop n hp e he k (.dat (.int (k : Int))) EV.fr_d
    have hh := half_bit e k
    have m1 : bMul (.int (p ^ (e / 2 ^ (k + 1)))) (.int (p ^ (e / 2 ^ (k + 1)))) = some (.dat (.int (p ^ (e / 2 ^ (k + 1)) * p ^ (e / 2 ^ (k + 1))))) := EV.p_mulB (by omega)
    have bb : W_power_of_1 (run n) [.dat (.int p), .dat (.int (e : Int)), .dat (.int (p ^ (e / 2 ^ (k + 1)))), .dat (.int (k : Int))] = some (.nx, [.dat (.int p), .dat (.int (e : Int)), .dat (.int (p ^ (e / 2 ^ k))), .dat (.int (k : Int))]) := by
      rcases Nat.mod_two_eq_zero_or_one (e / 2 ^ k) with hb0 | hb1
      · have hz : ((e / 2 ^ k % 2 : Nat) : Int) = 0 := by omega
        have ex : p ^ (e / 2 ^ (k + 1)) * p ^ (e / 2 ^ (k + 1)) = p ^ (e / 2 ^ k) := by rw [← Int.pow_add]; congr 1; omega
        rw [ex] at m1
        and_intros
      · have hz : ((e / 2 ^ k % 2 : Nat) : Int) ≠ 0 := by omega
        have ex : p ^ (e / 2 ^ (k + 1)) * p ^ (e / 2 ^ (k + 1)) * p = p ^ (e / 2 ^ k) := by rw [← Int.pow_add, ← Int.pow_succ]; congr 1; omega
        rw [← ex]
        and_intros
    rw [bb]
    exact ⟨t3', ih⟩
theorem I_power_of (n : Nat) {p : Int} (hp : isPrime p) {e : Nat} (he : e ≤ 10000) : run (n + 1) "power_of" none [.int p, .int (e : Int)] = some (.dat (.int (p ^ e)), none) := by
  have hb : e < 2 ^ 62 := Nat.lt_of_le_of_lt he (by decide)
  have hbn := EV.bl_le hb
  obtain ⟨t3', e3⟩ := power_of_loop n hp e he (EV.bl e) .un EV.fr_u
  rw [Nat.div_eq_of_lt (EV.bl_lt e), Int.pow_zero] at e3
  apply go_power_of
  and_intros
theorem I_lowest (n : Nat) {a l : Int} (hl : 0 < l) {b : Nat} (hb : ub b l) (hb2 : b ≤ 8000) : run (n + 1) "lowest" none [.int a, .int l] = some (.dat (iT [a / (Nat.gcd a.natAbs l.natAbs : Nat), l / (Nat.gcd a.natAbs l.natAbs : Nat)]), none) := by
  have h0 : 0 < Nat.gcd a.natAbs l.natAbs := Nat.gcd_pos_of_pos_right _ (by omega)
  have h1 : Nat.gcd a.natAbs l.natAbs ≤ l.natAbs := Nat.gcd_le_right _ (by omega)
  have hlog : ((Nat.gcd a.natAbs l.natAbs : Nat) : Int).natAbs.log2 < 9000 := by
    have : ub b ((Nat.gcd a.natAbs l.natAbs : Nat) : Int) := by
      unfold ub at *
      rw [Int.natAbs_natCast]
      omega
    have := (this.mono (show b ≤ 8999 by omega)).log (by omega)
    omega
  have hp0 : (0 : Int) < ((Nat.gcd a.natAbs l.natAbs : Nat) : Int) := Int.natCast_pos.mpr h0
  have q1 : bFdiv (.int a) (.int ((Nat.gcd a.natAbs l.natAbs : Nat) : Int)) = some (.dat (.int (a / ((Nat.gcd a.natAbs l.natAbs : Nat) : Int)))) := EV.p_fdivB hp0 hlog
  have q2 : bFdiv (.int l) (.int ((Nat.gcd a.natAbs l.natAbs : Nat) : Int)) = some (.dat (.int (l / ((Nat.gcd a.natAbs l.natAbs : Nat) : Int)))) := EV.p_fdivB hp0 hlog
  have h2 : 2 ≤ 16000000 := by omega
  clear hlog h1
  apply go_lowest
  and_intros
theorem shared_loop (n : Nat) : ∀ (L : List Nat) (a b : Nat) (g : Nat) (t : Slot), EV.Free t → eucl L.length a b = some g → ∃ δ', forGo (.nm 2) (W__law_shared_1 (run n)) (L.map EV.encN) [.dat (.int (a : Int)), .dat (.int (b : Int)), t] = some (.rt (.dat (.int (g : Int))), δ')
  | [], a, b, g, t, _, h => by simp [eucl] at h
  | u :: L, a, b, g, t, ht, h => by
    have gp : (Tg.nm 2).put (EV.encN u) [.dat (.int (a : Int)), .dat (.int (b : Int)), t] = some [.dat (.int (a : Int)), .dat (.int (b : Int)), .dat (EV.encN u)] := by and_intros
    rw [List.length_cons, eucl] at h
    by_cases hb : b = 0
    · rw [if_pos hb] at h
      cases h
      subst hb
      have b : W__law_shared_1 (run n) [.dat (.int (a : Int)), .dat (.int ((0 : Nat) : Int)), .dat (EV.encN u)] = some (.rt (.dat (.int (a : Int))), [.dat (.int (a : Int)), .dat (.int ((0 : Nat) : Int)), .dat (EV.encN u)]) := by and_intros
      refine ⟨[.dat (.int (a : Int)), .dat (.int ((0 : Nat) : Int)), .dat (EV.encN u)], ?_⟩
      rw [List.map_cons, forGo, gp]
      simp only [Option.bind_some, b]
    · rw [if_neg hb] at h
      have hb' : (0 : Int) < (b : Int) := by omega
      obtain ⟨δ', ih⟩ := shared_loop n L b (a % b) g (.dat (EV.encN u)) EV.fr_d h
      refine ⟨δ', ?_⟩
      have b : W__law_shared_1 (run n) [.dat (.int (a : Int)), .dat (.int (b : Int)), .dat (EV.encN u)] = some (.nx, [.dat (.int (b : Int)), .dat (.int ((a % b : Nat) : Int)), .dat (EV.encN u)]) := by
        rw [Int.natCast_emod]
        and_intros
      rw [List.map_cons, forGo, gp]
      simp only [Option.bind_some, b, ih]
theorem abs_nat (a : Int) : (if a < 0 then -a else a) = (a.natAbs : Int) := by split <;> omega
theorem I_law_shared (n : Nat) (a : Int) {b : Int} (hb : ub 749 b) : run (n + 1) "_law_shared" none [.int a, .int b] = some (.dat (.int ((Nat.gcd a.natAbs b.natAbs : Nat) : Int)), none) := by
  obtain ⟨δ', e⟩ := shared_loop n (List.range 1500) a.natAbs b.natAbs (Nat.gcd a.natAbs b.natAbs) .un EV.fr_u (by rw [List.length_range]; exact eucl_ok 749 1500 _ _ hb (by omega))
  rw [show (1500 : Nat) = Int.toNat 1500 from rfl, ← abs_nat a, ← abs_nat b] at e
  apply go__law_shared
  and_intros
theorem I_law_lowest_of (n : Nat) (a : Int) {l : Int} (hl : 0 < l) (hb : ub 749 l) : run (n + 2) "_law_lowest_of" none [.int a, .int l] = some (.dat (iT [a / (Nat.gcd a.natAbs l.natAbs : Nat), l / (Nat.gcd a.natAbs l.natAbs : Nat)]), none) := by
  have h0 : 0 < Nat.gcd a.natAbs l.natAbs := Nat.gcd_pos_of_pos_right _ (by omega)
  have h1 : Nat.gcd a.natAbs l.natAbs ≤ l.natAbs := Nat.gcd_le_right _ (by omega)
  have hlog : ((Nat.gcd a.natAbs l.natAbs : Nat) : Int).natAbs.log2 < 9000 := by
    have : ub 749 ((Nat.gcd a.natAbs l.natAbs : Nat) : Int) := by
      unfold ub at *
      rw [Int.natAbs_natCast]
      omega
    have := this.log (by omega)
    omega
  have e1 := I_law_shared n a hb
  have hp0 : (0 : Int) < ((Nat.gcd a.natAbs l.natAbs : Nat) : Int) := Int.natCast_pos.mpr h0
  have q1 : bFdiv (.int a) (.int ((Nat.gcd a.natAbs l.natAbs : Nat) : Int)) = some (.dat (.int (a / ((Nat.gcd a.natAbs l.natAbs : Nat) : Int)))) := EV.p_fdivB hp0 hlog
  have q2 : bFdiv (.int l) (.int ((Nat.gcd a.natAbs l.natAbs : Nat) : Int)) = some (.dat (.int (l / ((Nat.gcd a.natAbs l.natAbs : Nat) : Int)))) := EV.p_fdivB hp0 hlog
  have h2 : 2 ≤ 16000000 := by omega
  clear hlog h1
  apply go__law_lowest_of
  and_intros
theorem I_law_whole_power (n : Nat) {p : Int} (hp : isPrime p) {e : Nat} (he : e ≤ 100000) : run (n + 1) "_law_whole_power" none [.int p, .int (e : Int)] = some (.dat (.int (p ^ e)), none) := by
  have pp := prime_pos hp
  obtain ⟨δ', q, t3, h3, rfl⟩ := EV.f_range (g := .nm 3) (bb := W__law_whole_power_1 (run n)) (enc := EV.encN) (fun k δ => ∃ t3 : Slot, EV.Free t3 ∧ δ = [.dat (.int p), .dat (.int (e : Int)), .dat (.int (p ^ k)), t3]) e _ ⟨.un, EV.fr_u, rfl⟩ (by
    rintro k δ hk ⟨t3, h3, rfl⟩
    apply EV.st_nx (δ1 := [.dat (.int p), .dat (.int (e : Int)), .dat (.int (p ^ k)), .dat (.int (k : Int))]) (δ2 := [.dat (.int p), .dat (.int (e : Int)), .dat (.int (p ^ (k + 1))), .dat (.int (k : Int))])
    · and_intros
    · rw [Int.pow_succ]
      and_intros
    · exact ⟨_, EV.fr_d, rfl⟩)
  rw [Int.pow_zero] at q
  apply go__law_whole_power
  and_intros
theorem law_worth_loop (n : Nat) {p : Int} (hp : isPrime p) (d : D) (L : List Int) : ∃ t', forGo (.nm 3) (W__law_worth_1 (run n)) (L.map .int) [.dat (.int p), .dat d, .dat (.int 0), .un] = some (.nx, [.dat (.int p), .dat d, .dat (.int (L.foldl (fun v x => v * p + x) 0)), t']) := by
  have pp := prime_pos hp
  obtain ⟨t', _, _, e⟩ := EV.f_loop (g := .nm 3) (bb := W__law_worth_1 (run n)) (enc := PyData.int) (fun (v : Int) t => [.dat (.int p), .dat d, .dat (.int v), t]) (fun v x => v * p + x) (fun _ => True) L 0 .un EV.fr_u trivial (by
    intro s u t hu ht _
    refine ⟨trivial, ?_⟩
    apply EV.st_nx (δ1 := [.dat (.int p), .dat d, .dat (.int s), .dat (.int u)]) (δ2 := [.dat (.int p), .dat d, .dat (.int (s * p + u)), .dat (.int u)])
    · and_intros
    · and_intros
    · exact ⟨_, EV.fr_d, rfl⟩)
  exact ⟨t', e⟩
theorem I_law_worth (n : Nat) {p : Int} (hp : isPrime p) (row : List Int) : run (n + 1) "_law_worth" none [.int p, iT row] = some (.dat (.int (val p row)), none) := by
  obtain ⟨t', e⟩ := law_worth_loop n hp (iT row) row.reverse
  rw [val_rev] at e
  apply go__law_worth
  and_intros
end IPL
end
section
set_option linter.all false
set_option maxRecDepth 20000
set_option maxHeartbeats 1000000
namespace IPL
open IP
open PySem (PyData)
local macro_rules | `(tactic| infer_instance) => `(tactic| ((repeat' (first | with_reducible exact rfl | with_reducible assumption | with_reducible apply EV.bo_nt | with_reducible apply EV.bo_nf | with_reducible refine decide_eq_true ?_ | with_reducible refine decide_eq_false ?_ | with_reducible apply EV.bne_t | with_reducible apply EV.bne_f | omega)); done))
local macro_rules | `(tactic| and_intros) => `(tactic| repeat' (first
  | ((with_reducible apply EV.prop_of); with_reducible assumption)
  | with_reducible apply EV.s_seq
  | with_reducible exact EV.q_rt
  | with_reducible apply EV.q_nx
  | with_reducible exact EV.q_bk
  | with_reducible exact EV.q_ct
  | with_reducible apply EV.s_set
  | with_reducible apply EV.o_V
  | with_reducible exact EV.td_d
  | with_reducible exact EV.td_n
  | with_reducible exact EV.so_d
  | with_reducible exact EV.so_n
  | with_reducible exact EV.rd_v
  | with_reducible apply EV.rd_o
  | with_reducible apply EV.rd_p
  | with_reducible exact EV.e_C
  | ((with_reducible apply EV.o_var); (with_reducible apply EV.get_of); exact rfl)
  | ((with_reducible apply EV.o_own); (with_reducible apply EV.get_of); exact rfl)
  | ((with_reducible apply EV.o_prm); (with_reducible apply EV.get_of); exact rfl)
  | ((with_reducible apply EV.e_var); (with_reducible apply EV.get_of); exact rfl)
  | ((with_reducible apply EV.e_varO); ((with_reducible apply EV.get_of); exact rfl))
  | ((with_reducible apply EV.get_of); exact rfl)
  | with_reducible exact EV.st_0u
  | with_reducible exact EV.st_0d
  | with_reducible exact EV.st_0o
  | ((with_reducible apply EV.st_0f); first | assumption | exact EV.fr_d | exact EV.fr_u)
  | with_reducible apply EV.st_s
  | with_reducible exact EV.ls_0
  | with_reducible apply EV.ls_s
  | with_reducible apply EV.e_bin
  | with_reducible exact EV.p_add
  | with_reducible exact EV.p_sub
  | ((with_reducible apply EV.p_mod); first | assumption | omega)
  | ((with_reducible apply EV.p_repL) <;> omega)
  | ((with_reducible apply EV.p_repT) <;> omega)
  | ((with_reducible apply EV.p_mulL); first | assumption | omega)
  | ((with_reducible apply EV.p_mulR); first | assumption | omega)
  | ((with_reducible apply EV.p_mulB); first | assumption | omega)
  | ((with_reducible apply EV.p_fdiv) <;> first | assumption | omega)
  | ((with_reducible apply EV.p_fdivB) <;> first | assumption | omega)
  | with_reducible exact EV.p_pow12
  | with_reducible exact EV.p_pow17
  | with_reducible exact EV.p_pow60
  | with_reducible exact EV.p_pow15
  | with_reducible exact EV.p_pow18
  | with_reducible exact EV.p_lt
  | with_reducible exact EV.p_le
  | with_reducible exact EV.p_gt
  | with_reducible exact EV.p_ge
  | with_reducible exact EV.p_eq
  | with_reducible exact EV.p_ne
  | with_reducible exact EV.is_ii
  | with_reducible exact EV.is_bi
  | with_reducible exact EV.is_tt
  | with_reducible exact EV.is_tl
  | with_reducible exact EV.is_lt
  | with_reducible exact EV.is_ll
  | with_reducible exact EV.uisn
  | with_reducible exact EV.uisn_i
  | with_reducible exact EV.uisn_t
  | with_reducible exact EV.unn
  | with_reducible exact EV.unn_i
  | with_reducible exact EV.unn_t
  | with_reducible exact IPL.p_eqT
  | with_reducible exact IPL.p_neT
  | with_reducible exact IPL.p_eqT1
  | with_reducible exact IPL.p_neT1
  | with_reducible exact IPL.p_eqL
  | with_reducible exact IPL.p_neL
  | with_reducible exact IPL.p_eqL0
  | with_reducible exact IPL.p_eqT0
  | with_reducible exact IPL.p_neT0
  | with_reducible exact IPL.p_eqL1
  | with_reducible exact IPL.p_neL1
  | with_reducible exact IPL.p_eqTT
  | with_reducible exact IPL.p_neTT
  | with_reducible exact IPL.p_eqLT
  | with_reducible exact IPL.p_neLT
  | with_reducible exact IPL.p_neL0
  | with_reducible exact EV.p_eqB
  | with_reducible exact EV.p_neB
  | ((with_reducible apply EV.p_xor) <;> first | assumption | omega)
  | with_reducible exact EV.p_shrN
  | with_reducible exact EV.p_and1
  | with_reducible exact EV.p_bitsN
  | ((with_reducible apply EV.p_and) <;> first | assumption | omega)
  | ((with_reducible apply EV.p_ix0); first | assumption | omega)
  | with_reducible exact EV.p_ix20
  | with_reducible exact EV.p_ix21
  | with_reducible exact EV.p_ix30
  | with_reducible exact EV.p_ix31
  | with_reducible exact EV.p_ix32
  | ((with_reducible apply EV.p_ixLastT); assumption)
  | ((with_reducible apply EV.p_ixNegT); first | assumption | omega)
  | ((with_reducible apply EV.p_ixNegL); first | assumption | omega)
  | ((with_reducible apply EV.p_ixT); first | assumption | omega)
  | ((with_reducible apply EV.p_ixL); first | assumption | omega)
  | ((with_reducible apply EV.p_ixT') <;> first | assumption | omega)
  | ((with_reducible apply EV.p_ixL') <;> first | assumption | omega)
  | ((with_reducible apply IPL.p_ixTT); first | assumption | omega)
  | ((with_reducible apply IPL.p_ixLT); first | assumption | omega)
  | ((with_reducible apply EV.p_ixDT); first | assumption | omega)
  | ((with_reducible apply EV.p_ixDL); first | assumption | omega)
  | ((with_reducible apply EV.p_addT); (with_reducible apply EV.line_of); first | assumption | omega)
  | ((with_reducible apply EV.p_addL); (with_reducible apply EV.line_of); first | assumption | omega)
  | ((with_reducible apply EV.p_addsL); first | assumption | omega)
  | ((with_reducible apply EV.p_addTs); (with_reducible apply EV.line_of); first | assumption | omega)
  | ((with_reducible apply EV.p_addsT); (with_reducible apply EV.line_of); first | assumption | omega)
  | with_reducible apply EV.e_un
  | with_reducible exact EV.p_neg
  | with_reducible exact EV.p_revT
  | with_reducible exact EV.p_tupRev
  | with_reducible exact EV.p_revL
  | with_reducible apply EV.e_bi
  | with_reducible exact EV.b_len2
  | with_reducible exact EV.b_len3
  | with_reducible exact EV.b_lenT
  | with_reducible exact EV.b_lenL
  | with_reducible exact EV.b_lenT'
  | with_reducible exact EV.b_lenL'
  | with_reducible exact EV.b_int
  | with_reducible exact EV.b_intB
  | with_reducible exact EV.b_tupL
  | with_reducible exact EV.b_tupT
  | with_reducible exact EV.b_lstL
  | with_reducible exact EV.b_lstT
  | with_reducible exact EV.b_sum
  | with_reducible exact EV.b_sum2L
  | with_reducible exact EV.b_sum2T
  | with_reducible apply EV.e_lc2
  | with_reducible exact EV.b_abs
  | with_reducible exact EV.b_max
  | with_reducible exact EV.b_min
  | with_reducible exact EV.b_gcd
  | with_reducible exact EV.a_n
  | with_reducible apply EV.a_c
  | with_reducible exact EV.ra_n
  | with_reducible apply EV.ra_c
  | with_reducible exact EV.vs_n
  | with_reducible apply EV.vs_c
  | ((with_reducible apply EV.e_call); (focus (and_intros; done)); (focus (and_intros; done)); ((with_reducible apply EV.any_of); exact rfl))
  | ((with_reducible apply EV.e_callD); (focus (and_intros; done)); (focus (and_intros; done)); (focus (and_intros; done)); first | exact EV.noT | exact EV.noI | exact EV.noB | exact EV.noN)
  | ((with_reducible apply EV.e_callRo); ((with_reducible apply EV.ow_o); (with_reducible apply EV.get_of); exact rfl))
  | ((with_reducible apply EV.e_callRp); ((with_reducible apply EV.ow_p); (with_reducible apply EV.get_of); exact rfl))
  | with_reducible apply EV.e_tup
  | with_reducible apply EV.e_lst
  | ((with_reducible apply EV.line_of); first | assumption | (simp only [List.length_map, List.length_range, List.length_append, List.length_cons, List.length_nil, List.length_reverse, List.length_zip, List.length_take, List.length_drop, List.length_dropLast]; omega))
  | ((with_reducible apply EV.line_lt); first | assumption | (simp only [List.length_map, List.length_range, List.length_append, List.length_cons, List.length_nil, List.length_reverse, List.length_zip, List.length_take, List.length_drop, List.length_dropLast]; omega))
  | with_reducible apply EV.e_lc
  | with_reducible exact EV.u_n
  | ((with_reducible apply EV.u_u); ((with_reducible apply EV.get_of); exact rfl))
  | ((with_reducible apply EV.u_d); ((with_reducible apply EV.get_of); exact rfl))
  | with_reducible exact EV.ba_n
  | ((with_reducible apply EV.ba_c); ((with_reducible apply EV.get_of); exact rfl))
  | ((with_reducible apply EV.i_r1); (focus (and_intros; done)); omega)
  | ((with_reducible apply EV.i_r1'); (focus (and_intros; done)); omega; omega)
  | ((with_reducible apply EV.i_r2); (focus (and_intros; done)); (focus (and_intros; done)); omega; omega; omega; omega)
  | ((with_reducible apply EV.i_rT); (focus (and_intros; done)))
  | ((with_reducible apply EV.i_rL); (focus (and_intros; done)))
  | ((with_reducible apply EV.i_zT); (focus (and_intros; done)); (focus (and_intros; done)))
  | ((with_reducible apply EV.i_zL); (focus (and_intros; done)); (focus (and_intros; done)))
  | ((with_reducible apply EV.i_enT); (focus (and_intros; done)))
  | ((with_reducible apply EV.i_enL); (focus (and_intros; done)))
  | ((with_reducible apply EV.i_rr1); (focus (and_intros; done)); omega)
  | ((with_reducible apply EV.i_ET); (focus (and_intros; done)))
  | ((with_reducible apply EV.i_E); (focus (and_intros; done)))
  | ((with_reducible apply EV.i_EO); (focus (and_intros; done)); (focus (and_intros; done)))
  | with_reducible apply EV.t_nm
  | with_reducible apply EV.t_tup
  | with_reducible exact EV.sd_n
  | with_reducible apply EV.sd_c
  | with_reducible exact EV.stl_n
  | ((with_reducible apply EV.stl_o); (with_reducible apply EV.get_of); exact rfl)
  | ((with_reducible apply EV.l_intR); (intro _ _; with_reducible apply EV.lt_y))
  | ((with_reducible apply EV.l_int); (intro _ _; with_reducible apply EV.lt_y))
  | with_reducible apply EV.t_B
  | with_reducible apply EV.t_V
  | with_reducible apply EV.t_not
  | with_reducible apply EV.t_and
  | with_reducible apply EV.t_or
  | ((with_reducible apply EV.orT_f); (focus infer_instance))
  | ((with_reducible apply EV.orT_t); (focus infer_instance))
  | ((with_reducible apply EV.andT_t); (focus infer_instance))
  | ((with_reducible apply EV.andT_f); (focus infer_instance))
  | with_reducible exact EV.tr_b
  | with_reducible exact EV.tr_T
  | with_reducible exact EV.tr_L
  | with_reducible exact EV.tr_i
  | with_reducible exact EV.tr_n
  | with_reducible apply EV.s_if
  | ((with_reducible apply EV.if_t); (focus infer_instance))
  | ((with_reducible apply EV.if_f); (focus infer_instance))
  | with_reducible exact EV.s_pass
  | with_reducible exact EV.s_brk
  | with_reducible exact EV.s_cnt
  | with_reducible exact EV.s_retN
  | with_reducible apply EV.s_ret
  | with_reducible apply EV.s_ex
  | with_reducible apply EV.s_unp
  | with_reducible apply EV.s_par
  | with_reducible exact EV.pe_n
  | with_reducible apply EV.pe_c
  | with_reducible exact EV.sr_n
  | with_reducible apply EV.sr_c
  | ((with_reducible apply EV.s_appI); ((with_reducible apply EV.ow_o); (with_reducible apply EV.get_of); exact rfl); (focus (and_intros; done)); ((with_reducible apply EV.get_of); exact rfl))
  | ((with_reducible apply EV.s_appO); ((with_reducible apply EV.ow_o); (with_reducible apply EV.get_of); exact rfl))
  | ((with_reducible apply EV.s_augI); ((with_reducible apply EV.get_of); exact rfl))
  | ((with_reducible apply EV.s_setIxN); (focus (and_intros; done)); (focus ((with_reducible apply EV.ow_o); (with_reducible apply EV.get_of); exact rfl)); (focus (and_intros; done)); (focus ((with_reducible apply EV.get_of); exact rfl)); (focus (first | assumption | omega)))
  | ((with_reducible apply EV.s_setIxI); (focus (and_intros; done)); (focus ((with_reducible apply EV.ow_o); (with_reducible apply EV.get_of); exact rfl)); (focus (and_intros; done)); (focus ((with_reducible apply EV.get_of); exact rfl)); (focus (first | assumption | omega)))
  | ((with_reducible apply EV.s_augIxN); (focus ((with_reducible apply EV.ow_o); (with_reducible apply EV.get_of); exact rfl)); (focus (and_intros; done)); (focus ((with_reducible apply EV.get_of); exact rfl)); (focus (and_intros; done)); (focus ((with_reducible apply EV.get_of); exact rfl)); (focus (first | assumption | omega)))
  | ((with_reducible apply EV.s_pop); (focus ((with_reducible apply EV.get_of); exact rfl)); (focus assumption))
  | ((with_reducible apply EV.s_setIx); (focus (and_intros; done)); ((with_reducible apply EV.ow_o); (with_reducible apply EV.get_of); exact rfl); (focus (and_intros; done)); ((with_reducible apply EV.get_of); exact rfl))
  | with_reducible apply EV.s_for
  | with_reducible apply EV.s_while
  | with_reducible apply EV.e_not
  | with_reducible apply EV.e_and
  | with_reducible apply EV.e_or
  | ((with_reducible apply EV.andV_t); (focus infer_instance))
  | ((with_reducible apply EV.andV_f); (focus infer_instance))
  | ((with_reducible apply EV.orV_f); (focus infer_instance))
  | ((with_reducible apply EV.orV_t); (focus infer_instance))
  | with_reducible apply EV.e_ite
  | ((with_reducible apply EV.iteV_t); (focus infer_instance))
  | ((with_reducible apply EV.iteV_f); (focus infer_instance))
  | (with_reducible apply EV.e_chain)
  | ((with_reducible apply EV.chK_t); (focus infer_instance))
  | ((with_reducible apply EV.chK_f); (focus infer_instance))
  | (with_reducible apply EV.e_sl)
  | with_reducible exact EV.pn
  | with_reducible apply EV.ps
  | with_reducible exact EV.cut_to1
  | with_reducible exact EV.cut_to1L
  | with_reducible exact EV.cut_fr1
  | with_reducible exact EV.cut_fr1L
  | with_reducible exact EV.cut_toT
  | with_reducible exact EV.cut_toL
  | with_reducible exact EV.cut_frT
  | with_reducible exact EV.cut_frL
  | with_reducible exact EV.cut_lastT
  | with_reducible exact EV.cut_last1
  | with_reducible exact EV.cut_last1L
  | ((with_reducible apply EV.cut_toI); first | assumption | omega)
  | ((with_reducible apply EV.cut_frI); first | assumption | omega)
  | with_reducible exact EV.cut_lastL
  | with_reducible exact EV.or_n
  | with_reducible exact EV.or_r
  | ((with_reducible apply EV.or_of); exact rfl)
  | ((with_reducible apply EV.or_bt); focus infer_instance)
  | ((with_reducible apply EV.bo_nf); focus infer_instance)
  | ((with_reducible apply EV.bo_nt); focus infer_instance)))
theorem while_carry (n : Nat) {p : Int} {ts : List Int} (hp : isPrime p) (ht : nums p ts) (hl2 : ts.length ≤ 60) (d : D) (c : Nat) (hc : c ≤ 400) : ∀ (k : Nat) (row : List Int) (z : Int) (t6 : Slot) (fuel : Nat), EV.Free t6 → (0 < k → ts.length ≤ row.length) → row.length + k = max c row.length → k < fuel →
    ∃ t6' : Slot, EV.Free t6' ∧ whileGo (tB (fBin bLt (oV (vBi biLen (aCons (oVar 5) aNil))) (oVar 4))) (W_carry_run_2 (run n)) fuel [.dat (.int p), .dat (iT ts), .dat d, .dat (.int z), .dat (.int (c : Int)), .own (row.map .int), t6, .un, .un] =
      some (.nx, [.dat (.int p), .dat (iT ts), .dat d, .dat (.int (crz p ts k row z)), .dat (.int (c : Int)), .own ((crun p ts k row z).map .int), t6', .un, .un])
  | 0, row, z, t6, 0, _, _, _, h => by omega
  | 0, row, z, t6, fuel + 1, h6, _, h, _ => by
    have t : tB (fBin bLt (oV (vBi biLen (aCons (oVar 5) aNil))) (oVar 4)) [.dat (.int p), .dat (iT ts), .dat d, .dat (.int z), .dat (.int (c : Int)), .own (row.map .int), t6, .un, .un] = some (decide ((row.length : Int) < (c : Int)), [.dat (.int p), .dat (iT ts), .dat d, .dat (.int z), .dat (.int (c : Int)), .own (row.map .int), t6, .un, .un]) := by and_intros
    refine ⟨t6, h6, ?_⟩
    rw [whileGo, t, decide_eq_false (by omega)]
    rfl
  | k + 1, row, z, t6, 0, _, _, _, h => by omega
  | k + 1, row, z, t6, fuel + 1, h6, h1, h2, h3 => by
    have pp := prime_pos hp
    have t : tB (fBin bLt (oV (vBi biLen (aCons (oVar 5) aNil))) (oVar 4)) [.dat (.int p), .dat (iT ts), .dat d, .dat (.int z), .dat (.int (c : Int)), .own (row.map .int), t6, .un, .un] = some (decide ((row.length : Int) < (c : Int)), [.dat (.int p), .dat (iT ts), .dat d, .dat (.int z), .dat (.int (c : Int)), .own (row.map .int), t6, .un, .un]) := by and_intros
    have h1 := h1 (by omega)
    have hl : row.length < 16000000 := by omega
    have e1 : vLc [7, 8] (iEnum (oV (vVar 1))) (.tup [7, 8]) tYes (W_carry_run_1 (run n)) [.dat (.int p), .dat (iT ts), .dat d, .dat (.int z), .dat (.int (c : Int)), .own (row.map .int), t6, .un, .un] = some (.new (((List.range ts.length).map fun k => ts.getD k 0 * row.getD (row.length - 1 - k) 0).map .int), [.dat (.int p), .dat (iT ts), .dat d, .dat (.int z), .dat (.int (c : Int)), .own (row.map .int), t6, .un, .un]) := by
      have h := EV.l_intR (vs := [7, 8]) (g := .tup [7, 8]) (e := W_carry_run_1 (run n)) (src := (List.range ts.length).map (EV.encE ts)) (ow := none) (δ := [.dat (.int p), .dat (iT ts), .dat d, .dat (.int z), .dat (.int (c : Int)), .own (row.map .int), t6, .un, .un]) (enc := EV.encE ts) (f := fun k => ts.getD k 0 * row.getD (row.length - 1 - k) 0) (n := ts.length) (fun k hk => by
        have hb := nums_getD (by omega) ht k
        apply EV.lt_y
        and_intros) rfl
      apply EV.e_lc
      and_intros
    have b : W_carry_run_2 (run n) [.dat (.int p), .dat (iT ts), .dat d, .dat (.int z), .dat (.int (c : Int)), .own (row.map .int), t6, .un, .un] = some (.nx, [.dat (.int p), .dat (iT ts), .dat d, .dat (.int (ctot ts row z / p)), .dat (.int (c : Int)), .own ((row ++ [ctot ts row z % p]).map .int), .dat (.int (ctot ts row z)), .un, .un]) := by
      unfold ctot
      and_intros
    obtain ⟨t6', h6', ih⟩ := while_carry n hp ht hl2 d c hc k (row ++ [ctot ts row z % p]) (ctot ts row z / p) (.dat (.int (ctot ts row z))) fuel EV.fr_d (fun _ => by simp; omega) (by simp; omega) (by omega)
    refine ⟨t6', h6', ?_⟩
    rw [whileGo, t, decide_eq_true (by omega)]
    simp only [Option.bind_some, if_true, b]
    rw [crun, crz]
    exact ih
abbrev M70 : Int := 10000000000000000000000000000000000000000000000000000000000000000000000
theorem I_carry_run (n : Nat) {p : Int} {ts st : List Int} (hp : isPrime p) (ht : nums p ts) (hs : nums p st) (hl : st.length = ts.length) (hl2 : ts.length ≤ 60) {z : Int} (hz1 : -M70 ≤ z) (hz2 : z ≤ M70) (c : Nat) (hc : c ≤ 400) : run (n + 6) "carry_run" none [.int p, iT ts, iT st, .int z, .int (c : Int)] = some (.dat (iT ((crun p ts (c - ts.length) st z).take c)), none) := by
  have e1 := I_check_wired n hp ht hs hl hl2
  have e2 := I_check_number (n + 3) hz1 hz2
  have e3 := I_check_number (n + 3) (v := c) (a := 0) (b := 400) (by omega) (by omega)
  obtain ⟨t6, h6, e4⟩ := while_carry (n + 5) hp ht hl2 (iT st) c hc (c - ts.length) (st.take c) z .un turns EV.fr_u (fun h => by rw [List.length_take]; omega) (by rw [List.length_take]; omega) (by unfold turns; omega)
  have e5 : crun p ts (c - ts.length) (st.take c) z = (crun p ts (c - ts.length) st z).take c := by
    rcases Nat.le_total c ts.length with h | h
    · rw [show c - ts.length = 0 by omega]
      rfl
    · rw [List.take_of_length_le (by omega), List.take_of_length_le (by rw [crun_len]; omega)]
  rw [e5] at e4
  apply go_carry_run
  and_intros
theorem told_loop (n : Nat) {p : Int} {ts st : List Int} (hp : isPrime p) (ht : nums p ts) (hs : nums p st) (hl : st.length = ts.length) (hl2 : ts.length ≤ 60) : ∃ t4 t5 : Slot, forGo (.tup [4, 5]) (W__told_by_1 (run (n + 1))) ((List.range ts.length).map (EV.encE ts)) [.dat (.int p), .dat (iT ts), .dat (iT st), .dat (.int (-val p st)), .un, .un] = some (.nx, [.dat (.int p), .dat (iT ts), .dat (iT st), .dat (.int (-val p st + sg (fun i => ts.getD i 0 * p ^ (i + 1) * val p (st.take (st.length - 1 - i))) ts.length)), t4, t5]) := by
  have pp := prime_pos hp
  obtain ⟨δ', q, t4, t5, h4, h5, rfl⟩ := EV.f_range (g := .tup [4, 5]) (bb := W__told_by_1 (run (n + 1))) (enc := EV.encE ts) (fun k δ => ∃ t4 t5 : Slot, EV.Free t4 ∧ EV.Free t5 ∧ δ = [.dat (.int p), .dat (iT ts), .dat (iT st), .dat (.int (-val p st + sg (fun i => ts.getD i 0 * p ^ (i + 1) * val p (st.take (st.length - 1 - i))) k)), t4, t5]) ts.length _ ⟨.un, .un, EV.fr_u, EV.fr_u, rfl⟩ (by
    rintro k δ hk ⟨t4, t5, h4, h5, rfl⟩
    have hb := nums_getD (by omega) ht k
    have e1 := I_power_of n hp (e := k + 1) (by omega)
    rw [show ((k + 1 : Nat) : Int) = (k : Int) + 1 by omega] at e1
    have e2 := I_value_of n hp (st.take (st.length - 1 - k))
    have e3 : EV.cutR (iT st) none (some ((st.length : Int) - (k : Int) - 1)) = some (.dat (iT (st.take (st.length - 1 - k)))) := by
      rw [show (st.length : Int) - (k : Int) - 1 = ((st.length - 1 - k : Nat) : Int) by omega]
      exact EV.cut_toT
    have l1 := ((ub_small (x := ts.getD k 0) (by omega) (by omega)).mul (ub_pow hp (k + 1))).log (by omega)
    have l2 := (ub_val hp (row := st.take (st.length - 1 - k)) (fun x hx => hs x (List.mem_of_mem_take hx)) (n := 60) (by rw [List.length_take]; omega)).log (by omega)
    have m2 : bMul (.int (ts.getD k 0 * p ^ (k + 1))) (.int (val p (st.take (st.length - 1 - k)))) = some (.dat (.int (ts.getD k 0 * p ^ (k + 1) * val p (st.take (st.length - 1 - k))))) := EV.p_mulB (by omega)
    clear l1 l2
    apply EV.st_nx (δ1 := [.dat (.int p), .dat (iT ts), .dat (iT st), .dat (.int (-val p st + sg (fun i => ts.getD i 0 * p ^ (i + 1) * val p (st.take (st.length - 1 - i))) k)), .dat (.int (k : Int)), .dat (.int (ts.getD k 0))]) (δ2 := [.dat (.int p), .dat (iT ts), .dat (iT st), .dat (.int (-val p st + sg (fun i => ts.getD i 0 * p ^ (i + 1) * val p (st.take (st.length - 1 - i))) (k + 1))), .dat (.int (k : Int)), .dat (.int (ts.getD k 0))])
    · and_intros
    · rw [sg, ← Int.add_assoc]
      and_intros
    · exact ⟨_, _, EV.fr_d, EV.fr_d, rfl⟩)
  rw [sg, Int.add_zero] at q
  exact ⟨t4, t5, q⟩
theorem I_told_by (n : Nat) {p : Int} {ts st : List Int} (hp : isPrime p) (ht : nums p ts) (hs : nums p st) (hl : st.length = ts.length) (hl2 : ts.length ≤ 60) : run (n + 2) "_told_by" none [.int p, iT ts, iT st] = some (.dat (.int (-val p st + sg (fun i => ts.getD i 0 * p ^ (i + 1) * val p (st.take (st.length - 1 - i))) ts.length)), none) := by
  have e1 := I_value_of n hp st
  obtain ⟨t4, t5, e2⟩ := told_loop n hp ht hs hl hl2
  apply go__told_by
  and_intros
theorem told_ub {p : Int} {ts st : List Int} (hp : isPrime p) (ht : nums p ts) (hs : nums p st) (hl2 : ts.length ≤ 60) (hl : st.length ≤ 60) : ub 500 (-val p st + sg (fun i => ts.getD i 0 * p ^ (i + 1) * val p (st.take (st.length - 1 - i))) ts.length) := by
  have pp := prime_pos hp
  have h1 := ((ub_val hp hs hl).neg).mono (show 3 * 60 + 1 ≤ 499 by omega)
  have key : ∀ m, m ≤ ts.length → ub (420 + m) (sg (fun i => ts.getD i 0 * p ^ (i + 1) * val p (st.take (st.length - 1 - i))) m) := by
    intro m
    induction m with
    | zero => intro _; exact ub_of (x := 0) (by have : (0 : Int) < 2 ^ (420 + 0) := Int.pow_pos (by decide); omega) (Int.pow_pos (by decide))
    | succ m ih =>
      intro h
      have i1 := ih (by omega)
      have hb := nums_getD (show 0 < p by omega) ht m
      have i2 := (((ub_small (x := ts.getD m 0) (by omega) (by omega)).mul (ub_pow hp (m + 1))).mul (ub_val hp (row := st.take (st.length - 1 - m)) (fun x hx => hs x (List.mem_of_mem_take hx)) (n := 60) (by rw [List.length_take]; omega))).mono (show 6 + (3 * (m + 1) + 1) + (3 * 60 + 1) ≤ 420 + m by omega)
      exact i1.add i2
  exact h1.add ((key ts.length (Nat.le_refl _)).mono (by omega))
/-- what carry_fraction tells -/
theorem I_carry_fraction (n : Nat) {p : Int} {ts st : List Int} (hp : isPrime p) (ht : nums p ts) (hs : nums p st) (hl : st.length = ts.length) (hl2 : ts.length ≤ 60) {z : Int} (hz1 : -M70 ≤ z) (hz2 : z ≤ M70) : ∃ A Q g : Int, run (n + 6) "carry_fraction" none [.int p, iT ts, iT st, .int z] = some (.dat (iT [A, Q]), none) ∧ 1 ≤ Q ∧ g * Q = val p ts * p - 1 ∧ g * A = abv p ts st z ∧ Nat.gcd A.natAbs Q.natAbs = 1 ∧ ub 240 Q := by
  have pp := prime_pos hp
  have e1 := I_check_wired n hp ht hs hl hl2
  have e2 := I_check_number (n + 3) hz1 hz2
  have e3 := I_value_of (n + 4) hp (0 :: ts)
  rw [val_cons, Int.add_zero] at e3
  have e4 := I_told_by (n + 3) hp ht hs hl hl2
  have e5 := I_power_of (n + 4) hp (e := ts.length) (by omega)
  have uz : ub 240 z := ub_of (by
    have : (M70 : Int) < 2 ^ 240 := by decide +kernel
    omega) (by
    have : (M70 : Int) < 2 ^ 240 := by decide +kernel
    omega)
  have l1 := (ub_pow hp ts.length).log (by omega)
  have l2 := uz.log (by omega)
  have m1 : bMul (.int (p ^ ts.length)) (.int z) = some (.dat (.int (p ^ ts.length * z))) := EV.p_mulB (by omega)
  have hv0 := val_bd hp ts ht
  have uv : ub 199 (val p ts * p) := ((ub_val hp ht hl2).mul (ub_small (x := p) (by omega) (by omega))).mono (by omega)
  have uq : ub 200 (val p ts * p - 1) := uv.sub ((ub_small (x := 1) (by omega) (by omega)).mono (by omega))
  have h1l : 1 + ts.length ≤ 16000000 := by omega
  have h1 : 1 ≤ 16000000 := by omega
  clear l1 l2
  have eabv : abv p ts st z = -val p st + sg (fun i => ts.getD i 0 * p ^ (i + 1) * val p (st.take (st.length - 1 - i))) ts.length - p ^ ts.length * z := by
    unfold abv
    rw [hl]
  rw [eabv]
  generalize -val p st + sg (fun i => ts.getD i 0 * p ^ (i + 1) * val p (st.take (st.length - 1 - i))) ts.length = T at *
  have hvp : 0 ≤ val p ts * p := Int.mul_nonneg hv0.1 (by omega)
  by_cases h0 : 0 < val p ts * p - 1
  · obtain ⟨A, Q, a1, a2, a3, a4, a5, a6, a7, _⟩ := gcd_out (T - p ^ ts.length * z) h0
    have e6 := I_lowest (n + 4) (a := T - p ^ ts.length * z) h0 uq (by omega)
    rw [a1, a2] at e6
    refine ⟨A, Q, _, ?_, a6, a4, a3, a5, (uq.le (by omega) a7).mono (by omega)⟩
    apply go_carry_fraction
    and_intros
  · have hv : val p ts * p = 0 := by
      have : val p ts = 0 ∨ 1 ≤ val p ts := by omega
      rcases this with h | h
      · rw [h, Int.zero_mul]
      · have := Int.mul_le_mul h (show 2 ≤ p by omega) (by omega) (by omega)
        omega
    obtain ⟨A, Q, a1, a2, a3, a4, a5, a6, a7, _⟩ := gcd_out (-(T - p ^ ts.length * z)) (l := -(val p ts * p - 1)) (by omega)
    have e6 := I_lowest (n + 4) (a := -(T - p ^ ts.length * z)) (l := -(val p ts * p - 1)) (by omega) uq.neg (by omega)
    rw [a1, a2] at e6
    refine ⟨A, Q, -((Nat.gcd (-(T - p ^ ts.length * z)).natAbs (-(val p ts * p - 1)).natAbs : Nat) : Int), ?_, a6, by rw [Int.neg_mul, a4]; omega, by rw [Int.neg_mul, a3]; omega, a5, (uq.neg.le (by omega) a7).mono (by omega)⟩
    apply go_carry_fraction
    and_intros
theorem I_law_carried (n : Nat) {p : Int} {ts st : List Int} (hp : isPrime p) (ht : nums p ts) (hl : st.length = ts.length) (hl2 : ts.length ≤ 60) (z : Int) (c : Nat) (hc : c ≤ 1000) : run (n + 1) "_law_carried" none [.int p, iT ts, iT st, .int z, .int (c : Int)] = some (.dat (iT ((crun p ts (c - ts.length) st z).take c)), none) := by
  have pp := prime_pos hp
  obtain ⟨δ', q, t6, t7, h6, h7, rfl⟩ := EV.f_range (g := .nm 6) (bb := W__law_carried_2 (run n)) (enc := EV.encFrom (ts.length : Int)) (fun k δ => ∃ t6 t7 : Slot, EV.Free t6 ∧ EV.Free t7 ∧ δ = [.dat (.int p), .dat (iT ts), .dat (iT st), .dat (.int (crz p ts k st z)), .dat (.int (c : Int)), .own ((crun p ts k st z).map .int), t6, t7, .un]) ((c : Int) - (ts.length : Int)).toNat _ ⟨.un, .un, EV.fr_u, EV.fr_u, rfl⟩ (by
    rintro k δ hk ⟨t6, t7, h6, h7, rfl⟩
    have hcl := crun_len p ts k st z
    have hlt : (crun p ts k st z).length < 16000000 := by omega
    obtain ⟨s1, s2⟩ := crun_snoc p ts k st z
    rw [s1, s2]
    generalize crun p ts k st z = row at *
    generalize crz p ts k st z = w at *
    have e1 : vLc [8] (iRange1 (oV (vBi biLen (aCons (oVar 1) aNil)))) (.nm 8) tYes (W__law_carried_1 (run n)) [.dat (.int p), .dat (iT ts), .dat (iT st), .dat (.int w), .dat (.int (c : Int)), .own (row.map .int), .dat (.int ((ts.length : Int) + (k : Int))), t7, .un] = some (.new (((List.range ts.length).map fun j => ts.getD j 0 * row.getD (row.length - 1 - j) 0).map .int), [.dat (.int p), .dat (iT ts), .dat (iT st), .dat (.int w), .dat (.int (c : Int)), .own (row.map .int), .dat (.int ((ts.length : Int) + (k : Int))), t7, .un]) := by
      have h := EV.l_intR (vs := [8]) (g := .nm 8) (e := W__law_carried_1 (run n)) (src := (List.range ts.length).map EV.encN) (ow := none) (δ := [.dat (.int p), .dat (iT ts), .dat (iT st), .dat (.int w), .dat (.int (c : Int)), .own (row.map .int), .dat (.int ((ts.length : Int) + (k : Int))), t7, .un]) (enc := EV.encN) (f := fun j => ts.getD j 0 * row.getD (row.length - 1 - j) 0) (n := ts.length) (fun j hj => by
        have hb := nums_getD (by omega) ht j
        have ex : fBin bSub (oV (fBin bSub (oVar 6) (oV (vC (.int 1))))) (oVar 8) [.dat (.int p), .dat (iT ts), .dat (iT st), .dat (.int w), .dat (.int (c : Int)), .own (row.map .int), .dat (.int ((ts.length : Int) + (k : Int))), t7, .dat (.int (j : Int))] = some (.dat (.int ((row.length - 1 - j : Nat) : Int)), [.dat (.int p), .dat (iT ts), .dat (iT st), .dat (.int w), .dat (.int (c : Int)), .own (row.map .int), .dat (.int ((ts.length : Int) + (k : Int))), t7, .dat (.int (j : Int))]) := by
          rw [show ((row.length - 1 - j : Nat) : Int) = (ts.length : Int) + (k : Int) - 1 - (j : Int) by omega]
          and_intros
        apply EV.lt_y
        and_intros) rfl
      apply EV.e_lc
      and_intros
    apply EV.st_nx (δ1 := [.dat (.int p), .dat (iT ts), .dat (iT st), .dat (.int w), .dat (.int (c : Int)), .own (row.map .int), .dat (.int ((ts.length : Int) + (k : Int))), t7, .un]) (δ2 := [.dat (.int p), .dat (iT ts), .dat (iT st), .dat (.int (ctot ts row w / p)), .dat (.int (c : Int)), .own ((row ++ [ctot ts row w % p]).map .int), .dat (.int ((ts.length : Int) + (k : Int))), .dat (.int (ctot ts row w)), .un])
    · and_intros
    · unfold ctot
      and_intros
    · exact ⟨_, _, EV.fr_d, EV.fr_d, rfl⟩)
  rw [crun, crz, show ((c : Int) - (ts.length : Int)).toNat = c - ts.length by omega] at q
  have q2 : ((c : Int) - (ts.length : Int)).toNat = c - ts.length := by omega
  rw [← q2] at q
  have e3 : EV.cutR (iL (crun p ts ((c : Int) - (ts.length : Int)).toNat st z)) none (some (c : Int)) = some (.new (((crun p ts (c - ts.length) st z).take c).map .int)) := by rw [q2]; exact EV.cut_toL
  apply go__law_carried
  and_intros
end IPL
end
section
set_option linter.all false
set_option maxRecDepth 20000
set_option maxHeartbeats 2000000
namespace IPL
open IP
open PySem (PyData)
local macro_rules | `(tactic| infer_instance) => `(tactic| ((repeat' (first | with_reducible exact rfl | with_reducible assumption | with_reducible apply EV.bo_nt | with_reducible apply EV.bo_nf | with_reducible refine decide_eq_true ?_ | with_reducible refine decide_eq_false ?_ | with_reducible apply EV.bne_t | with_reducible apply EV.bne_f | omega)); done))
local macro_rules | `(tactic| and_intros) => `(tactic| repeat' (first
  | ((with_reducible apply EV.prop_of); with_reducible assumption)
  | with_reducible apply EV.s_seq
  | with_reducible exact EV.q_rt
  | with_reducible apply EV.q_nx
  | with_reducible exact EV.q_bk
  | with_reducible exact EV.q_ct
  | with_reducible apply EV.s_set
  | with_reducible apply EV.o_V
  | with_reducible exact EV.td_d
  | with_reducible exact EV.td_n
  | with_reducible exact EV.so_d
  | with_reducible exact EV.so_n
  | with_reducible exact EV.rd_v
  | with_reducible apply EV.rd_o
  | with_reducible apply EV.rd_p
  | with_reducible exact EV.e_C
  | ((with_reducible apply EV.o_var); (with_reducible apply EV.get_of); exact rfl)
  | ((with_reducible apply EV.o_own); (with_reducible apply EV.get_of); exact rfl)
  | ((with_reducible apply EV.o_prm); (with_reducible apply EV.get_of); exact rfl)
  | ((with_reducible apply EV.e_var); (with_reducible apply EV.get_of); exact rfl)
  | ((with_reducible apply EV.e_varO); ((with_reducible apply EV.get_of); exact rfl))
  | ((with_reducible apply EV.get_of); exact rfl)
  | with_reducible exact EV.st_0u
  | with_reducible exact EV.st_0d
  | with_reducible exact EV.st_0o
  | ((with_reducible apply EV.st_0f); first | assumption | exact EV.fr_d | exact EV.fr_u)
  | with_reducible apply EV.st_s
  | with_reducible exact EV.ls_0
  | with_reducible apply EV.ls_s
  | with_reducible apply EV.e_bin
  | with_reducible exact EV.p_add
  | with_reducible exact EV.p_sub
  | ((with_reducible apply EV.p_mod); first | assumption | omega)
  | ((with_reducible apply EV.p_repL) <;> omega)
  | ((with_reducible apply EV.p_repT) <;> omega)
  | ((with_reducible apply EV.p_mulL); first | assumption | omega)
  | ((with_reducible apply EV.p_mulR); first | assumption | omega)
  | ((with_reducible apply EV.p_mulB); first | assumption | omega)
  | ((with_reducible apply EV.p_fdiv) <;> first | assumption | omega)
  | ((with_reducible apply EV.p_fdivB) <;> first | assumption | omega)
  | with_reducible exact EV.p_pow12
  | with_reducible exact EV.p_pow17
  | with_reducible exact EV.p_pow60
  | with_reducible exact EV.p_pow15
  | with_reducible exact EV.p_pow18
  | with_reducible exact EV.p_lt
  | with_reducible exact EV.p_le
  | with_reducible exact EV.p_gt
  | with_reducible exact EV.p_ge
  | with_reducible exact EV.p_eq
  | with_reducible exact EV.p_ne
  | with_reducible exact EV.is_ii
  | with_reducible exact EV.is_bi
  | with_reducible exact EV.is_tt
  | with_reducible exact EV.is_tl
  | with_reducible exact EV.is_lt
  | with_reducible exact EV.is_ll
  | with_reducible exact EV.uisn
  | with_reducible exact EV.uisn_i
  | with_reducible exact EV.uisn_t
  | with_reducible exact EV.unn
  | with_reducible exact EV.unn_i
  | with_reducible exact EV.unn_t
  | with_reducible exact IPL.p_eqT
  | with_reducible exact IPL.p_neT
  | with_reducible exact IPL.p_eqT1
  | with_reducible exact IPL.p_neT1
  | with_reducible exact IPL.p_eqL
  | with_reducible exact IPL.p_neL
  | with_reducible exact IPL.p_eqL0
  | with_reducible exact IPL.p_eqT0
  | with_reducible exact IPL.p_neT0
  | with_reducible exact IPL.p_eqL1
  | with_reducible exact IPL.p_neL1
  | with_reducible exact IPL.p_eqTT
  | with_reducible exact IPL.p_neTT
  | with_reducible exact IPL.p_eqLT
  | with_reducible exact IPL.p_neLT
  | with_reducible exact IPL.p_neL0
  | with_reducible exact EV.p_eqB
  | with_reducible exact EV.p_neB
  | ((with_reducible apply EV.p_xor) <;> first | assumption | omega)
  | with_reducible exact EV.p_shrN
  | with_reducible exact EV.p_and1
  | with_reducible exact EV.p_bitsN
  | ((with_reducible apply EV.p_and) <;> first | assumption | omega)
  | ((with_reducible apply EV.p_ix0); first | assumption | omega)
  | with_reducible exact EV.p_ix20
  | with_reducible exact EV.p_ix21
  | with_reducible exact EV.p_ix30
  | with_reducible exact EV.p_ix31
  | with_reducible exact EV.p_ix32
  | ((with_reducible apply EV.p_ixLastT); assumption)
  | ((with_reducible apply EV.p_ixNegT); first | assumption | omega)
  | ((with_reducible apply EV.p_ixNegL); first | assumption | omega)
  | ((with_reducible apply EV.p_ixT); first | assumption | omega)
  | ((with_reducible apply EV.p_ixL); first | assumption | omega)
  | ((with_reducible apply EV.p_ixT') <;> first | assumption | omega)
  | ((with_reducible apply EV.p_ixL') <;> first | assumption | omega)
  | ((with_reducible apply IPL.p_ixTT); first | assumption | omega)
  | ((with_reducible apply IPL.p_ixLT); first | assumption | omega)
  | ((with_reducible apply EV.p_ixDT); first | assumption | omega)
  | ((with_reducible apply EV.p_ixDL); first | assumption | omega)
  | ((with_reducible apply EV.p_addT); (with_reducible apply EV.line_of); first | assumption | omega)
  | ((with_reducible apply EV.p_addL); (with_reducible apply EV.line_of); first | assumption | omega)
  | ((with_reducible apply EV.p_addsL); first | assumption | omega)
  | ((with_reducible apply EV.p_addTs); (with_reducible apply EV.line_of); first | assumption | omega)
  | ((with_reducible apply EV.p_addsT); (with_reducible apply EV.line_of); first | assumption | omega)
  | with_reducible apply EV.e_un
  | with_reducible exact EV.p_neg
  | with_reducible exact EV.p_revT
  | with_reducible exact EV.p_tupRev
  | with_reducible exact EV.p_revL
  | with_reducible apply EV.e_bi
  | with_reducible exact EV.b_len2
  | with_reducible exact EV.b_len3
  | with_reducible exact EV.b_lenT
  | with_reducible exact EV.b_lenL
  | with_reducible exact EV.b_lenT'
  | with_reducible exact EV.b_lenL'
  | with_reducible exact EV.b_int
  | with_reducible exact EV.b_intB
  | with_reducible exact EV.b_tupL
  | with_reducible exact EV.b_tupT
  | with_reducible exact EV.b_lstL
  | with_reducible exact EV.b_lstT
  | with_reducible exact EV.b_sum
  | with_reducible exact EV.b_sum2L
  | with_reducible exact EV.b_sum2T
  | with_reducible apply EV.e_lc2
  | with_reducible exact EV.b_abs
  | with_reducible exact EV.b_max
  | with_reducible exact EV.b_min
  | with_reducible exact EV.b_gcd
  | with_reducible exact EV.a_n
  | with_reducible apply EV.a_c
  | with_reducible exact EV.ra_n
  | with_reducible apply EV.ra_c
  | with_reducible exact EV.vs_n
  | with_reducible apply EV.vs_c
  | ((with_reducible apply EV.e_call); (focus (and_intros; done)); (focus (and_intros; done)); ((with_reducible apply EV.any_of); exact rfl))
  | ((with_reducible apply EV.e_callD); (focus (and_intros; done)); (focus (and_intros; done)); (focus (and_intros; done)); first | exact EV.noT | exact EV.noI | exact EV.noB | exact EV.noN)
  | ((with_reducible apply EV.e_callRo); ((with_reducible apply EV.ow_o); (with_reducible apply EV.get_of); exact rfl))
  | ((with_reducible apply EV.e_callRp); ((with_reducible apply EV.ow_p); (with_reducible apply EV.get_of); exact rfl))
  | with_reducible apply EV.e_tup
  | with_reducible apply EV.e_lst
  | ((with_reducible apply EV.line_of); first | assumption | (simp only [List.length_map, List.length_range, List.length_append, List.length_cons, List.length_nil, List.length_reverse, List.length_zip, List.length_take, List.length_drop, List.length_dropLast]; omega))
  | ((with_reducible apply EV.line_lt); first | assumption | (simp only [List.length_map, List.length_range, List.length_append, List.length_cons, List.length_nil, List.length_reverse, List.length_zip, List.length_take, List.length_drop, List.length_dropLast]; omega))
  | with_reducible apply EV.e_lc
  | with_reducible exact EV.u_n
  | ((with_reducible apply EV.u_u); ((with_reducible apply EV.get_of); exact rfl))
  | ((with_reducible apply EV.u_d); ((with_reducible apply EV.get_of); exact rfl))
  | with_reducible exact EV.ba_n
  | ((with_reducible apply EV.ba_c); ((with_reducible apply EV.get_of); exact rfl))
  | ((with_reducible apply EV.i_r1); (focus (and_intros; done)); omega)
  | ((with_reducible apply EV.i_r1'); (focus (and_intros; done)); omega; omega)
  | ((with_reducible apply EV.i_r2); (focus (and_intros; done)); (focus (and_intros; done)); omega; omega; omega; omega)
  | ((with_reducible apply EV.i_rT); (focus (and_intros; done)))
  | ((with_reducible apply EV.i_rL); (focus (and_intros; done)))
  | ((with_reducible apply EV.i_zT); (focus (and_intros; done)); (focus (and_intros; done)))
  | ((with_reducible apply EV.i_zL); (focus (and_intros; done)); (focus (and_intros; done)))
  | ((with_reducible apply EV.i_enT); (focus (and_intros; done)))
  | ((with_reducible apply EV.i_enL); (focus (and_intros; done)))
  | ((with_reducible apply EV.i_rr1); (focus (and_intros; done)); omega)
  | ((with_reducible apply EV.i_ET); (focus (and_intros; done)))
  | ((with_reducible apply EV.i_E); (focus (and_intros; done)))
  | ((with_reducible apply EV.i_EO); (focus (and_intros; done)); (focus (and_intros; done)))
  | with_reducible apply EV.t_nm
  | with_reducible apply EV.t_tup
  | with_reducible exact EV.sd_n
  | with_reducible apply EV.sd_c
  | with_reducible exact EV.stl_n
  | ((with_reducible apply EV.stl_o); (with_reducible apply EV.get_of); exact rfl)
  | ((with_reducible apply EV.l_intR); (intro _ _; with_reducible apply EV.lt_y))
  | ((with_reducible apply EV.l_int); (intro _ _; with_reducible apply EV.lt_y))
  | with_reducible apply EV.t_B
  | with_reducible apply EV.t_V
  | with_reducible apply EV.t_not
  | with_reducible apply EV.t_and
  | with_reducible apply EV.t_or
  | ((with_reducible apply EV.orT_f); (focus infer_instance))
  | ((with_reducible apply EV.orT_t); (focus infer_instance))
  | ((with_reducible apply EV.andT_t); (focus infer_instance))
  | ((with_reducible apply EV.andT_f); (focus infer_instance))
  | with_reducible exact EV.tr_b
  | with_reducible exact EV.tr_T
  | with_reducible exact EV.tr_L
  | with_reducible exact EV.tr_i
  | with_reducible exact EV.tr_n
  | with_reducible apply EV.s_if
  | ((with_reducible apply EV.if_t); (focus infer_instance))
  | ((with_reducible apply EV.if_f); (focus infer_instance))
  | with_reducible exact EV.s_pass
  | with_reducible exact EV.s_brk
  | with_reducible exact EV.s_cnt
  | with_reducible exact EV.s_retN
  | with_reducible apply EV.s_ret
  | with_reducible apply EV.s_ex
  | with_reducible apply EV.s_unp
  | with_reducible apply EV.s_par
  | with_reducible exact EV.pe_n
  | with_reducible apply EV.pe_c
  | with_reducible exact EV.sr_n
  | with_reducible apply EV.sr_c
  | ((with_reducible apply EV.s_appI); ((with_reducible apply EV.ow_o); (with_reducible apply EV.get_of); exact rfl); (focus (and_intros; done)); ((with_reducible apply EV.get_of); exact rfl))
  | ((with_reducible apply EV.s_appO); ((with_reducible apply EV.ow_o); (with_reducible apply EV.get_of); exact rfl))
  | ((with_reducible apply EV.s_augI); ((with_reducible apply EV.get_of); exact rfl))
  | ((with_reducible apply EV.s_setIxN); (focus (and_intros; done)); (focus ((with_reducible apply EV.ow_o); (with_reducible apply EV.get_of); exact rfl)); (focus (and_intros; done)); (focus ((with_reducible apply EV.get_of); exact rfl)); (focus (first | assumption | omega)))
  | ((with_reducible apply EV.s_setIxI); (focus (and_intros; done)); (focus ((with_reducible apply EV.ow_o); (with_reducible apply EV.get_of); exact rfl)); (focus (and_intros; done)); (focus ((with_reducible apply EV.get_of); exact rfl)); (focus (first | assumption | omega)))
  | ((with_reducible apply EV.s_augIxN); (focus ((with_reducible apply EV.ow_o); (with_reducible apply EV.get_of); exact rfl)); (focus (and_intros; done)); (focus ((with_reducible apply EV.get_of); exact rfl)); (focus (and_intros; done)); (focus ((with_reducible apply EV.get_of); exact rfl)); (focus (first | assumption | omega)))
  | ((with_reducible apply EV.s_pop); (focus ((with_reducible apply EV.get_of); exact rfl)); (focus assumption))
  | ((with_reducible apply EV.s_setIx); (focus (and_intros; done)); ((with_reducible apply EV.ow_o); (with_reducible apply EV.get_of); exact rfl); (focus (and_intros; done)); ((with_reducible apply EV.get_of); exact rfl))
  | with_reducible apply EV.s_for
  | with_reducible apply EV.s_while
  | with_reducible apply EV.e_not
  | with_reducible apply EV.e_and
  | with_reducible apply EV.e_or
  | ((with_reducible apply EV.andV_t); (focus infer_instance))
  | ((with_reducible apply EV.andV_f); (focus infer_instance))
  | ((with_reducible apply EV.orV_f); (focus infer_instance))
  | ((with_reducible apply EV.orV_t); (focus infer_instance))
  | with_reducible apply EV.e_ite
  | ((with_reducible apply EV.iteV_t); (focus infer_instance))
  | ((with_reducible apply EV.iteV_f); (focus infer_instance))
  | (with_reducible apply EV.e_chain)
  | ((with_reducible apply EV.chK_t); (focus infer_instance))
  | ((with_reducible apply EV.chK_f); (focus infer_instance))
  | (with_reducible apply EV.e_sl)
  | with_reducible exact EV.pn
  | with_reducible apply EV.ps
  | with_reducible exact EV.cut_to1
  | with_reducible exact EV.cut_to1L
  | with_reducible exact EV.cut_fr1
  | with_reducible exact EV.cut_fr1L
  | with_reducible exact EV.cut_toT
  | with_reducible exact EV.cut_toL
  | with_reducible exact EV.cut_frT
  | with_reducible exact EV.cut_frL
  | with_reducible exact EV.cut_lastT
  | with_reducible exact EV.cut_last1
  | with_reducible exact EV.cut_last1L
  | ((with_reducible apply EV.cut_toI); first | assumption | omega)
  | ((with_reducible apply EV.cut_frI); first | assumption | omega)
  | with_reducible exact EV.cut_lastL
  | with_reducible exact EV.or_n
  | with_reducible exact EV.or_r
  | ((with_reducible apply EV.or_of); exact rfl)
  | ((with_reducible apply EV.or_bt); focus infer_instance)
  | ((with_reducible apply EV.bo_nf); focus infer_instance)
  | ((with_reducible apply EV.bo_nt); focus infer_instance)))
theorem low_unit {p g Q v : Int} (hp : isPrime p) (h : g * Q = v * p - 1) : Q % p ≠ 0 := by
  intro h0
  have pp := prime_pos hp
  obtain ⟨k, hk⟩ := Int.dvd_of_emod_eq_zero h0
  have e : p * (v - g * k) = 1 := by rw [hk] at h; grind
  generalize v - g * k = w at e
  rcases hp with rfl | rfl | rfl | rfl <;> omega
theorem pow_mod0 {P D t : Int} (h : D = P * t) : D % P = 0 := by rw [h]; exact Int.mul_emod_right P t
theorem law_run_true (n : Nat) (ns : List Int) : run (n + 9) "law" none [scr ns] = some (.dat (.bool true), none) := by
  have hx0 : RowOk ns [scr ns, .int 0, .int 5067, .int 0] := ⟨0, 5067, 0, rfl, by decide⟩
  obtain ⟨p, x1, d1, hp, hx1⟩ := I_prime (n + 5) hx0
  have pp := prime_pos hp
  obtain ⟨k2, x2, d2, hk2, hx2⟩ := I_taken (n + 7) hx1 (m := 3) (okM_s (by decide) (by decide))
  obtain ⟨M, i2, hM⟩ := EV.ix3 hk2 (a := 3) (b := 6) (c := 30)
  obtain ⟨ts, st, x3, d3, ht, hs, hl, hlM, hx3⟩ := I_law_taps (n + 6) hx2 (p := p) (m := M) (okM_s (by omega) (by omega)) (by omega) (by omega)
  have hl2 : ts.length ≤ 30 := by omega
  obtain ⟨k4, x4, d4, hk4, hx4⟩ := I_taken (n + 7) hx3 (m := 3) (okM_s (by decide) (by decide))
  obtain ⟨N, i4, hN⟩ := EV.ix3 hk4 (a := 8) (b := 1000) (c := 1000000000000000000000000000000)
  have p30 : bPow (.int 10) (.int 30) = some (.dat (.int 1000000000000000000000000000000)) := EV.p_pow ⟨by decide, by decide, by decide⟩ (by decide +kernel)
  have omN : okM N := by
    refine ⟨by omega, ?_⟩
    rcases hN with rfl | rfl | rfl
    · exact .inl (by decide)
    · exact .inl (by decide)
    · exact .inr (Nat.lt_trans (log_lt (n := 250) (by decide) (by decide)) (by decide))
  obtain ⟨z0, x5, d5, hz0, hx5⟩ := I_taken (n + 7) hx4 omN
  obtain ⟨s, x6, d6, hsg, hx6⟩ := I_pick (n + 6) hx5 (cs := [1, 0 - 1]) (by decide) (by decide)
  simp only [iL, List.map_cons, List.map_nil] at d6
  have hs1 : s = 1 ∨ s = -1 := by simpa using hsg
  obtain ⟨z, hz⟩ : ∃ z, z = z0 * s := ⟨_, rfl⟩
  have hzb : -M70 ≤ z ∧ z ≤ M70 := by
    rw [hz]
    have em : (M70 : Int) = 10000000000000000000000000000000000000000000000000000000000000000000000 := rfl
    rcases hs1 with rfl | rfl <;> constructor <;> omega
  obtain ⟨k7, x7, d7, hk7, hx7⟩ := I_taken (n + 7) hx6 (m := 3) (okM_s (by decide) (by decide))
  obtain ⟨C, i7, hC⟩ := EV.ix3 hk7 (a := 20) (b := 120) (c := 401)
  obtain ⟨c', x8, d8, hc', hx8⟩ := I_taken (n + 7) hx7 (m := C) (okM_s (by omega) (by omega))
  obtain ⟨c, rfl⟩ : ∃ c : Nat, (c : Int) = c' := ⟨c'.toNat, by omega⟩
  have hc : c ≤ 400 := by omega
  have e1 := I_carry_run (n + 2) hp ht hs hl (by omega) hzb.1 hzb.2 c hc
  have e2 := I_law_carried (n + 7) hp ht hl (by omega) z c (by omega)
  have hcl := crun_len p ts (c - ts.length) st z
  have htl : ((crun p ts (c - ts.length) st z).take c).length = c := by rw [List.length_take]; omega
  have a1 := I_alike_row (n + 6) ((crun p ts (c - ts.length) st z).take c) (by omega)
  obtain ⟨A, Q, g, e3, q1, q2, q3, q4, q5⟩ := I_carry_fraction (n + 2) hp ht hs hl (by omega) hzb.1 hzb.2
  have e4 := I_law_worth (n + 7) hp (0 :: ts)
  rw [val_cons, Int.add_zero] at e4
  have e5 := I_law_lowest_of (n + 6) A (l := Q) (by omega) (q5.mono (by omega))
  rw [q4, show ((1 : Nat) : Int) = 1 from rfl, Int.ediv_one, Int.ediv_one] at e5
  have a2 := I_alike_row (n + 6) [A, Q] (by simp)
  have m0 : (val p ts * p - 1) % Q = 0 := by rw [← q2]; exact Int.mul_emod_left g Q
  have hQ0 := low_unit hp q2
  obtain ⟨m, hm⟩ := inv_ex hp hQ0
  have b1 : bMod (.int (val p ts * p - 1)) (.int Q) = some (.dat (.int 0)) := by rw [EV.p_mod (by omega), m0]
  have ix0 : bIx (iT [A, Q]) (.int 0) = some (.dat (.int A)) := rfl
  have ix1 : bIx (iT [A, Q]) (.int 1) = some (.dat (.int Q)) := rfl
  have bl2 : biLen [iT [A, Q]] = some (.dat (.int 2)) := rfl
  have bne0 : bNe (.int 0) (.int 0) = some (.dat (.bool false)) := by rw [EV.p_ne]; rfl
  have beq0 : bEq (.int 0) (.int 0) = some (.dat (.bool true)) := by rw [EV.p_eq]; rfl
  have h1 : 1 ≤ 16000000 := by omega
  have h1l : 1 + ts.length ≤ 16000000 := by omega
  have e4b : vCall (run (n + 8) "_law_worth") (aCons (oVar 2) (aCons (oV (fBin bAdd (oV (vTup (aCons (oV (vC (.int 0))) aNil))) (oVar 3))) aNil)) [.dat (scr ns), .own x8, .dat (.int p), .dat (iT ts), .dat (iT st), .dat (.int z), .dat (.int (c : Int)), .dat (iT ((crun p ts (c - ts.length) st z).take c)), .dat (iT [A, Q]), .un, .un, .un] = some (.dat (.int (val p ts * p)), [.dat (scr ns), .own x8, .dat (.int p), .dat (iT ts), .dat (iT st), .dat (.int z), .dat (.int (c : Int)), .dat (iT ((crun p ts (c - ts.length) st z).take c)), .dat (iT [A, Q]), .un, .un, .un]) := by and_intros
  have mz : bMul (.int z0) (.int s) = some (.dat (.int z)) := by
    rw [hz]
    exact EV.p_mulR (by omega)
  have habs : biAbs [.int A] = some (.dat (.int (A.natAbs : Int))) := by rw [EV.b_abs, abs_nat]
  have h60 : bPow (.int 10) (.int 60) = some (.dat (.int 1000000000000000000000000000000000000000000000000000000000000)) := EV.p_pow60
  by_cases hbig : (1000000000000000000000000000000000000000000000000000000000000 : Int) < (A.natAbs : Int)
  · clear hM hN hC hzb hz0
    apply go_law
    and_intros
  · by_cases hbig2 : (1000000000000000000000000000000000000000000000000000000000000 : Int) < Q
    · clear hM hN hC hzb hz0
      apply go_law
      and_intros
    · have e6 : run (n + 8) "fraction_row" none [.int p, iT [A, Q], .int (c : Int)] = some (.dat (iT (figs p Q m c A)), none) := I_fraction_row (n + 3) hp (a := A) (l := Q) (by show (-1000000000000000000000000000000000000000000000000000000000000 : Int) ≤ A; omega) (by show A ≤ (1000000000000000000000000000000000000000000000000000000000000 : Int); omega) q1 (by show Q ≤ (1000000000000000000000000000000000000000000000000000000000000 : Int); omega) hQ0 hm hc
      have hcn := crun_nums (show 0 < p by omega) ts (c - ts.length) st z hs
      have hd := crun_take_dvd (show 0 < p by omega) hl z (c - ts.length) c (by omega)
      rw [← q3] at hd
      obtain ⟨t, hd⟩ := low_out q2 hd
      have hfig := figs_uniq hp hm c ((crun p ts (c - ts.length) st z).take c) A (-t) (fun x hx => hcn x (List.mem_of_mem_take hx)) htl (by rw [Int.mul_neg, ← hd]; grind)
      rw [← hfig] at e6
      have e7 := I_law_carried (n + 7) hp ht hl (by omega) z (ts.length + 40) (by omega)
      rw [show ts.length + 40 - ts.length = 40 by omega, List.take_of_length_le (by rw [crun_len]; omega), Int.natCast_add, show ((40 : Nat) : Int) = 40 from rfl] at e7
      have hwn := crun_nums (show 0 < p by omega) ts 40 st z hs
      have hwl := crun_len p ts 40 st z
      have e8 := I_law_worth (n + 7) hp (crun p ts 40 st z)
      have e9 := I_law_whole_power (n + 7) hp (e := ts.length + 40) (by omega)
      rw [Int.natCast_add, show ((40 : Nat) : Int) = 40 from rfl] at e9
      have hd2 := crun_dvd (show 0 < p by omega) hl z 40
      rw [← q3, hwl, hl] at hd2
      obtain ⟨t2, hd2⟩ := low_out q2 hd2
      have l1 := q5.log (by omega)
      have l2 := (ub_val hp hwn (n := 100) (by omega)).log (by omega)
      have mb : bMul (.int Q) (.int (val p (crun p ts 40 st z))) = some (.dat (.int (Q * val p (crun p ts 40 st z)))) := EV.p_mulB (by omega)
      have hpp := pow_pos' hp (ts.length + 40)
      have bm : bMod (.int (Q * val p (crun p ts 40 st z) - A)) (.int (p ^ (ts.length + 40))) = some (.dat (.int 0)) := by rw [EV.p_mod hpp, pow_mod0 hd2]
      clear l1 l2 hM hN hC hzb hz0
      apply go_law
      and_intros
theorem law_true (ns : List Int) (_ : ns.length ≤ 63) : run 30 "law" none [scr ns] = some (.dat (.bool true), none) := law_run_true 21 ns
end IPL
end
section
set_option Elab.async false
set_option linter.all false
set_option maxRecDepth 100000
set_option maxHeartbeats 1000000
open PySem PySem.W PySem.Calls PyProof.Rows
theorem PySem.Challenge.cw_taprows_k67_whole_registers_with_carry_holds : PySem.Challenge.rw_taprows_k67_whole_registers_with_carry.Holds := by
  w_on; o_law
  refine HeadI.head_imp (r := OpenLaw.row PySem.Challenge.rw_taprows_k67_whole_registers_with_carry) (q := view (OpenLaw.row PySem.Challenge.rw_taprows_k67_whole_registers_with_carry).prog [49]) (H := IPL.hk) (ob := IPL.ob) (M1 := 3000) (M2 := 6000) (loose := IPL.loose) (d := HandSHeadRun.topDef (OpenLaw.row PySem.Challenge.rw_taprows_k67_whole_registers_with_carry).prog 49) (kwd := []) IPL.ob_eq
    IPL.run_ok (by kernel_rfl) (by kernel_rfl) (by kernel_rfl) (by rfl) (by first | assumption | decide +kernel) (by decide +kernel) ⟨rfl, rfl, rfl, rfl, rfl, by decide +kernel⟩ ?hw ?hc
  case hw => w_witness2
  case hc =>
    refine L2.walk_ofE (l := PySem.Challenge.rw_taprows_k67_whole_registers_with_carry) (n := 63) (k := 30) (x := "script") (CX := L2.CX0) rfl (by decide) (by kernel_rfl) ⟨rfl, by decide, by decide⟩ ?F (fun _ _ _ _ z => z)
    intro w mg fa h Y G hmg0
    obtain ⟨K, KX, c, ce⟩ := Y
    have hmg : mg ("law" : PySem.Str) = some (.ref fa) := by
      have e : (HandSHeadRun.topDef (OpenLaw.row PySem.Challenge.rw_taprows_k67_whole_registers_with_carry).prog 49).name = ("law" : PySem.Str) := by kernel_rfl
      rw [← e]
      exact hmg0
    obtain ⟨fd, T⟩ := IPL.tx KX G c ce
    have e := hmg.symm.trans T.g_law
    cases e
    refine ⟨K, fd 30, IP.spI K (IPL.run 30 "law"), KX, fun s v => L2.FunD.bindsA T.f_law (ps := ["script"]) (fun _ _ _ _ _ _ us hl => match us, hl with | [_], _ => rfl) s [v] rfl, fun H a ns hl _ hS => ?_, fun base _ _ => (IPL.ih_all (P := (PySem.Challenge.rw_taprows_k67_whole_registers_with_carry).prog) (w := w) (base := base) T 30).i_law⟩
    exact IP.law_end hS (IPL.law_true ns hl)
end
