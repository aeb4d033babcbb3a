import PyProof.Rows.All
import PyProof.EqLayable
import Wide.All
import OpenK.AllK
import Wide.FinOn
import HandS.ForMost
import HandS.IsInst
import HandS.TupAny
import HandS.TupMul
import HandS.Zip
import HandS.Rev
import HandS.RevRange
import HandS.Walk
import HandS.HeadHook1
import HandS.Style
import HandS.Wide
import HandS.Iter
import KE.GoesMore
import KE.GoesEnum
import KE.KStateDown
import HandS.More
import HandS.WordsExc
import HandS.Defaults
import HandS.Head0
import HandS.Head1
import HandS.Head2
import HandS.HeadEnd
import HandS.HeadHook2
import HandS.WideBits
import HandS.Gcd
import HandS.Text
import KE.KTupSum
import HandS.Dict
import HandS.TupSets
import PySem.Challenge.RW_taprows_k18_known_rows
section
set_option linter.all false
/-! IP: an environment of pure data with owned lists; what a piece of the text does to it, as a total function. -/
namespace IP
open PySem
abbrev D := PyData
/-- a list or tuple or text within the model's bounds -/
abbrev line : Nat := 16000000
inductive Slot where
  | un | dat (d : D) | own (ds : List D) | prm (ds : List D) | obj (fs : List D) | pob (fs : List D)
abbrev Env := List Slot
inductive Res where
  | dat (d : D) | new (ds : List D)
inductive Opd where
  | val (d : D) | at (i : Nat)
inductive Out where
  | nx | bk | ct | rt (r : Res) | ro (i : Nat)
@[simp] def Res.toD : Res → D
  | .dat d => d
  | .new ds => .list ds
abbrev Ev := Env → Option (Res × Env)
abbrev Eo := Env → Option (Opd × Env)
abbrev Et := Env → Option (Bool × Env)
abbrev Ea := Env → Option (List Opd × Env)
abbrev Es := Env → Option (Out × Env)
/-- a function of the text: its one list handed by reference (if it has one), the data; the answer, that list behind it -/
abbrev Fnc := Option (List D) → List D → Option (Res × Option (List D))
abbrev Call := String → Fnc

@[simp] def slotD : Slot → Option D
  | .dat d => some d
  | .own ds => some (.list ds)
  | .prm ds => some (.list ds)
  | .un => none
  | .obj _ => none
  | .pob _ => none
@[simp] def rd (δ : Env) : Opd → Option D
  | .val d => some d
  | .at i => (δ[i]?).bind slotD
@[simp] def rdAll (δ : Env) : List Opd → Option (List D)
  | [] => some []
  | o :: os => (rd δ o).bind fun d => (rdAll δ os).map fun ds => d :: ds
/-- what a variable gives as a value that is kept: an owned list is owned no more -/
@[simp] def freeze (δ : Env) (i : Nat) : Env := match δ[i]? with
  | some (.own ds) => δ.set i (.dat (.list ds))
  | _ => δ

/-- the script, as data: a list that is read only -/
def scr (ns : List Int) : D := .dict [(.none, .tuple (ns.map .int))]

/-! ### structural equality -/
mutual
def same : D → D → Bool
  | .none, .none => true
  | .bool a, .bool b => a == b
  | .int a, .int b => a == b
  | .str a, .str b => decide (a = b)
  | .list a, .list b => sameAll a b
  | .tuple a, .tuple b => sameAll a b
  | _, _ => false
def sameAll : List D → List D → Bool
  | [], [] => true
  | x :: xs, y :: ys => same x y && sameAll xs ys
  | _, _ => false
end
mutual
@[simp] def noList : D → Bool
  | .list _ => false
  | .dict _ => false
  | .tuple xs => noListAll xs
  | _ => true
@[simp] def noListAll : List D → Bool
  | [] => true
  | x :: xs => noList x && noListAll xs
end

/-! ### values -/
@[simp] def vC (d : D) : Ev := fun δ => some (.dat d, δ)
@[simp] def vVar (i : Nat) : Ev := fun δ => match δ[i]? with
  | some (.dat d) => some (.dat d, δ)
  | some (.own ds) => some (.dat (.list ds), freeze δ i)
  | _ => none
@[simp] def oVar (i : Nat) : Eo := fun δ => match δ[i]? with
  | some (.dat d) => some (.val d, δ)
  | some (.own _) => some (.at i, δ)
  | some (.prm _) => some (.at i, δ)
  | _ => none
@[simp] def oV (f : Ev) : Eo := fun δ => (f δ).map fun p => (.val p.1.toD, p.2)
@[simp] def fBin (op : D → D → Option Res) (f g : Eo) : Ev := fun δ =>
  (f δ).bind fun p => (g p.2).bind fun q => (rd q.2 p.1).bind fun x => (rd q.2 q.1).bind fun y => (op x y).map fun r => (r, q.2)
@[simp] def fUn (op : D → Option Res) (f : Eo) : Ev := fun δ => (f δ).bind fun p => (rd p.2 p.1).bind fun x => (op x).map fun r => (r, p.2)

/-! ### the operators on data -/
def intsOf : List D → Option (List Int)
  | [] => some []
  | .int i :: ds => (intsOf ds).map fun is => i :: is
  | _ => none
def boolsOf : List D → Option (List Bool)
  | [] => some []
  | .bool i :: ds => (boolsOf ds).map fun is => i :: is
  | _ => none
@[simp] def bAdd : D → D → Option Res
  | .int a, .int b => some (.dat (.int (a + b)))
  | .tuple a, .tuple b => if a.length + b.length ≤ line then some (.dat (.tuple (a ++ b))) else none
  | .list a, .list b => if a.length + b.length ≤ line then some (.new (a ++ b)) else none
  | _, _ => none
@[simp] def bSub : D → D → Option Res
  | .int a, .int b => some (.dat (.int (a - b)))
  | _, _ => none
@[simp] def bMul : D → D → Option Res
  | .int a, .int b => if ((-(2 ^ 64) < a ∧ a < 2 ^ 64) ∨ (-(2 ^ 64) < b ∧ b < 2 ^ 64)) ∨ a.natAbs.log2 + b.natAbs.log2 < 1000000 then some (.dat (.int (a * b))) else none
  | .list a, .int k => if -(2 ^ 63) ≤ k ∧ k < 2 ^ 63 ∧ a.length * k.toNat ≤ line then some (.new (List.replicate k.toNat a).flatten) else none
  | .tuple a, .int k => if -(2 ^ 62) ≤ k ∧ k ≤ 2 ^ 62 ∧ a.length * k.toNat ≤ line then some (.dat (.tuple (List.replicate k.toNat a).flatten)) else none
  | _, _ => none
@[simp] def bFdiv : D → D → Option Res
  | .int a, .int b => if 0 < b ∧ (b < 1073741824 ∨ b.natAbs.log2 < 9000) then some (.dat (.int (a / b))) else none
  | _, _ => none
@[simp] def bMod : D → D → Option Res
  | .int a, .int b => if 0 < b then some (.dat (.int (a % b))) else none
  | _, _ => none
@[simp] def bPow : D → D → Option Res
  | .int a, .int b => if 0 ≤ b ∧ b ≤ 1000000 ∧ a.natAbs < 2 ^ 64 then some (.dat (.int (a ^ b.toNat))) else none
  | _, _ => none
@[simp] def bShr : D → D → Option Res
  | .int a, .int b => if 0 ≤ b then some (.dat (.int (a / 2 ^ b.toNat))) else none
  | _, _ => none
@[simp] def bLt : D → D → Option Res
  | .int a, .int b => some (.dat (.bool (decide (a < b))))
  | _, _ => none
@[simp] def bLe : D → D → Option Res
  | .int a, .int b => some (.dat (.bool (decide (a ≤ b))))
  | _, _ => none
@[simp] def bGt : D → D → Option Res
  | .int a, .int b => some (.dat (.bool (decide (b < a))))
  | _, _ => none
@[simp] def bGe : D → D → Option Res
  | .int a, .int b => some (.dat (.bool (decide (b ≤ a))))
  | _, _ => none
@[simp] def bEq (a b : D) : Option Res := if SeqAt.shaped a = true ∧ SeqAt.shaped b = true then some (.dat (.bool (PyData.eqv a b))) else none
@[simp] def bNe (a b : D) : Option Res := if SeqAt.shaped a = true ∧ SeqAt.shaped b = true then some (.dat (.bool (!PyData.eqv a b))) else none
@[simp] def bIn : D → D → Option Res
  | .int i, .list ds => (intsOf ds).map fun is => .dat (.bool (decide (i ∈ is)))
  | .int i, .tuple ds => (intsOf ds).map fun is => .dat (.bool (decide (i ∈ is)))
  | _, _ => none
@[simp] def bNotIn : D → D → Option Res
  | .int i, .list ds => (intsOf ds).map fun is => .dat (.bool (!decide (i ∈ is)))
  | .int i, .tuple ds => (intsOf ds).map fun is => .dat (.bool (!decide (i ∈ is)))
  | _, _ => none
@[simp] def uNeg : D → Option Res
  | .int a => some (.dat (.int (-a)))
  | _ => none
@[simp] def isNone : D → Bool
  | .none => true
  | _ => false
@[simp] def uIsN (d : D) : Option Res := some (.dat (.bool (isNone d)))
@[simp] def uNotN (d : D) : Option Res := some (.dat (.bool (!isNone d)))
/-- an int within -n .. n - 1 as a place -/
def ixN (n : Nat) (i : Int) : Option Nat := if 0 ≤ i then (if i < n then some i.toNat else none) else if -(n : Int) ≤ i then some (i + n).toNat else none
def atD (xs : List D) (i : Int) : Option D := (ixN xs.length i).bind fun j => xs[j]?
@[simp] def bIx : D → D → Option Res
  | .list xs, .int i => (atD xs i).map .dat
  | .tuple xs, .int i => (atD xs i).map .dat
  | .dict [(.none, .tuple xs)], .int i => (atD xs i).map .dat
  | _, _ => none
def clampIx (n d : Nat) : Option Int → Nat
  | none => d
  | some i => if i < 0 then (i + (n : Int)).toNat else min i.toNat n
def cutD (xs : List D) (lo hi : Option Int) : List D := (xs.drop (clampIx xs.length 0 lo)).take (clampIx xs.length xs.length hi - clampIx xs.length 0 lo)
/-- an optional bound of a slice -/
@[simp] def pNo : Env → Option (Option Int × Env) := fun δ => some (none, δ)
@[simp] def pSo (f : Eo) : Env → Option (Option Int × Env) := fun δ => (f δ).bind fun p => match p.1 with
  | .val (.int i) => some (some i, p.2)
  | _ => none
@[simp] def fSl (f : Eo) (lo hi : Env → Option (Option Int × Env)) : Ev := fun δ =>
  (f δ).bind fun p => (lo p.2).bind fun l => (hi l.2).bind fun h => (rd h.2 p.1).bind fun x => match x with
    | .list xs => some (.new (cutD xs l.1 h.1), h.2)
    | .tuple xs => some (.dat (.tuple (cutD xs l.1 h.1)), h.2)
    | _ => none

/-! ### tests -/
@[simp] def truth : D → Option Bool
  | .none => some false
  | .bool b => some b
  | .int i => some (i != 0)
  | .list xs => some (!xs.isEmpty)
  | .tuple xs => some (!xs.isEmpty)
  | _ => none
@[simp] def tV (f : Eo) : Et := fun δ => (f δ).bind fun p => (rd p.2 p.1).bind fun d => (truth d).map fun b => (b, p.2)
/-- a value that is a bool -/
@[simp] def tB (f : Ev) : Et := fun δ => (f δ).bind fun p => match p.1 with
  | .dat (.bool b) => some (b, p.2)
  | _ => none
@[simp] def tAnd (f g : Et) : Et := fun δ => (f δ).bind fun p => if p.1 = true then g p.2 else some (false, p.2)
@[simp] def tOr (f g : Et) : Et := fun δ => (f δ).bind fun p => if p.1 = true then some (true, p.2) else g p.2
@[simp] def tNot (f : Et) : Et := fun δ => (f δ).map fun p => (!p.1, p.2)
/-- the same as values -/
def vAnd (f g : Ev) : Ev := fun δ => (f δ).bind fun p => match p.1 with
  | .dat (.bool true) => g p.2
  | .dat (.bool false) => some (.dat (.bool false), p.2)
  | _ => none
def vOr (f g : Ev) : Ev := fun δ => (f δ).bind fun p => match p.1 with
  | .dat (.bool true) => some (.dat (.bool true), p.2)
  | .dat (.bool false) => g p.2
  | _ => none
@[simp] def vNot (f : Ev) : Ev := fun δ => (f δ).bind fun p => match p.1 with
  | .dat (.bool b) => some (.dat (.bool (!b)), p.2)
  | _ => none
@[simp] def vIte (t : Et) (f g : Ev) : Ev := fun δ => (t δ).bind fun p => if p.1 = true then f p.2 else g p.2
def vChain (o1 o2 : D → D → Option Res) (f g h : Eo) : Ev := fun δ =>
  (f δ).bind fun p => (g p.2).bind fun q => (rd q.2 p.1).bind fun x => (rd q.2 q.1).bind fun y => (o1 x y).bind fun r => match r with
    | .dat (.bool true) => (h q.2).bind fun u => (rd u.2 q.1).bind fun y' => (rd u.2 u.1).bind fun z => (o2 y' z).map fun r => (r, u.2)
    | .dat (.bool false) => some (.dat (.bool false), q.2)
    | _ => none

/-! ### displays, calls -/
@[simp] def aNil : Ea := fun δ => some ([], δ)
@[simp] def aCons (f : Eo) (g : Ea) : Ea := fun δ => (f δ).bind fun p => (g p.2).map fun q => (p.1 :: q.1, q.2)
@[simp] def vals : List Opd → Option (List D)
  | [] => some []
  | .val d :: os => (vals os).map fun ds => d :: ds
  | .at _ :: _ => none
@[simp] def vTup (f : Ea) : Ev := fun δ => (f δ).bind fun p => (vals p.1).bind fun ds => if ds.length ≤ line then some (.dat (.tuple ds), p.2) else none
@[simp] def vLst (f : Ea) : Ev := fun δ => (f δ).bind fun p => (vals p.1).bind fun ds => if ds.length ≤ line then some (.new ds, p.2) else none
/-- a builtin on data -/
@[simp] def vBi (b : List D → Option Res) (f : Ea) : Ev := fun δ => (f δ).bind fun p => (rdAll p.2 p.1).bind fun ds => (b ds).map fun r => (r, p.2)
def freezeAll : List Opd → Env → Env
  | [], δ => δ
  | .val _ :: os, δ => freezeAll os δ
  | .at i :: os, δ => freezeAll os (freeze δ i)
@[simp] def anyAt : List Opd → Bool
  | [] => false
  | .val _ :: os => anyAt os
  | .at _ :: _ => true
/-- a call without a list by reference: owned lists are read in place where no list comes back -/
@[simp] def vCall (c : Fnc) (f : Ea) : Ev := fun δ => (f δ).bind fun p => (rdAll p.2 p.1).bind fun ds => (c none ds).bind fun r => match r with
  | (r, none) => if anyAt p.1 = false then some (r, p.2) else match r with
    | .dat d => if noList d = true then some (.dat d, p.2) else none
    | .new ds => if noListAll ds = true then some (.new ds, p.2) else none
  | _ => none
/-- a call with the list of the variable i by reference -/
@[simp] def ownAt (δ : Env) (i : Nat) : Bool := match δ[i]? with
  | some (.own _) => true
  | some (.prm _) => true
  | _ => false
@[simp] def vCallR (c : Fnc) (i : Nat) (f : Ea) : Ev := fun δ => (if ownAt δ i = true then f δ else none).bind fun p => (vals p.1).bind fun ds => match p.2[i]? with
  | some (.own xs) => (c (some xs) ds).bind fun r => match r.2 with
    | some ys => some (r.1, p.2.set i (.own ys))
    | none => none
  | some (.prm xs) => (c (some xs) ds).bind fun r => match r.2 with
    | some ys => some (r.1, p.2.set i (.prm ys))
    | none => none
  | _ => none
inductive Ty where
  | int | bool | str | list | tuple
  deriving DecidableEq
@[simp] def isTy : Ty → D → Option Bool
  | _, .dict _ => none
  | .int, .int _ => some true
  | .int, .bool _ => some true
  | .bool, .bool _ => some true
  | .str, .str _ => some true
  | .list, .list _ => some true
  | .tuple, .tuple _ => some true
  | _, _ => some false
@[simp] def isAny : List Ty → D → Option Bool
  | [], _ => some false
  | t :: ts, d => (isTy t d).bind fun b => if b = true then some true else isAny ts d
@[simp] def uIs (ts : List Ty) (d : D) : Option Res := (isAny ts d).map fun b => .dat (.bool b)

/-! ### built-in functions -/
@[simp] def biLen : List D → Option Res
  | [.list xs] => some (.dat (.int xs.length))
  | [.tuple xs] => some (.dat (.int xs.length))
  | [.dict [(.none, .tuple xs)]] => some (.dat (.int xs.length))
  | _ => none
@[simp] def biInt : List D → Option Res
  | [.int i] => some (.dat (.int i))
  | [.bool b] => some (.dat (.int (if b then 1 else 0)))
  | _ => none
@[simp] def biTuple : List D → Option Res
  | [.list xs] => some (.dat (.tuple xs))
  | [.tuple xs] => some (.dat (.tuple xs))
  | _ => none
@[simp] def biList : List D → Option Res
  | [.list xs] => some (.new xs)
  | [.tuple xs] => some (.new xs)
  | _ => none
@[simp] def biSum : List D → Option Res
  | [.list xs] => (intsOf xs).map fun is => .dat (.int is.sum)
  | _ => none
@[simp] def biAll : List D → Option Res
  | [.list xs] => (boolsOf xs).map fun bs => .dat (.bool (bs.all id))
  | _ => none
@[simp] def biAny : List D → Option Res
  | [.list xs] => (boolsOf xs).map fun bs => .dat (.bool (bs.any id))
  | _ => none
@[simp] def biAbs : List D → Option Res
  | [.int i] => some (.dat (.int (if i < 0 then -i else i)))
  | _ => none
@[simp] def biMax : List D → Option Res
  | [.int i, .int j] => some (.dat (.int (if j > i then j else i)))
  | _ => none
@[simp] def biMin : List D → Option Res
  | [.int i, .int j] => some (.dat (.int (if j < i then j else i)))
  | _ => none

/-! ### targets and what is walked -/
inductive Tg where
  | nm (i : Nat) | tup (is : List Nat)
@[simp] def Tg.slots : Tg → List Nat
  | .nm i => [i]
  | .tup is => is
@[simp] def setSlot (δ : Env) (i : Nat) (s : Slot) : Option Env := match δ[i]? with
  | some (.prm _) => none
  | some (.pob _) => none
  | some _ => some (δ.set i s)
  | none => none
@[simp] def setDs : Env → List Nat → List D → Option Env
  | δ, [], [] => some δ
  | δ, i :: is, d :: ds => (setSlot δ i (.dat d)).bind fun δ' => setDs δ' is ds
  | _, _, _ => none
@[simp] def Tg.put : Tg → D → Env → Option Env
  | .nm i, d, δ => setSlot δ i (.dat d)
  | .tup is, .tuple ds, δ => setDs δ is ds
  | .tup _, _, _ => none
/-- what is walked: the items, and the variable whose owned list is walked in place -/
abbrev Ei := Env → Option ((List D × Option Nat) × Env)
@[simp] def itemsOf : D → Option (List D)
  | .list xs => some xs
  | .tuple xs => some xs
  | _ => none
def own? : Opd → Option Nat
  | .val _ => none
  | .at i => some i
@[simp] def iE (f : Eo) : Ei := fun δ => (f δ).bind fun p => (rd p.2 p.1).bind fun d => (itemsOf d).map fun xs => ((xs, own? p.1), p.2)
def rangeD (lo : Int) (n : Nat) : List D := (List.range n).map fun k => .int (lo + (k : Nat))
def iRange1 (f : Eo) : Ei := fun δ => (f δ).bind fun p => match p.1 with
  | .val (.int j) => if -(2 ^ 62) ≤ j ∧ j < 2 ^ 62 then some ((rangeD 0 j.toNat, none), p.2) else none
  | _ => none
def iRange2 (f g : Eo) : Ei := fun δ => (f δ).bind fun p => (g p.2).bind fun q => match p.1, q.1 with
  | .val (.int i), .val (.int j) => if -(2 ^ 62) ≤ i ∧ i < 2 ^ 62 ∧ -(2 ^ 62) ≤ j ∧ j < 2 ^ 62 then some ((rangeD i (j - i).toNat, none), q.2) else none
  | _, _ => none
/-- range(a, b, -1) -/
def downD (hi : Int) (n : Nat) : List D := (List.range n).map fun k => .int (hi - (k : Nat))
def iDown (f g : Eo) : Ei := fun δ => (f δ).bind fun p => (g p.2).bind fun q => match p.1, q.1 with
  | .val (.int i), .val (.int j) => if -(2 ^ 60) ≤ i ∧ i < 2 ^ 60 ∧ -(2 ^ 60) ≤ j ∧ j < 2 ^ 60 then some ((downD i (i - j).toNat, none), q.2) else none
  | _, _ => none
def enumD : Nat → List D → List D
  | _, [] => []
  | k, d :: ds => .tuple [.int k, d] :: enumD (k + 1) ds
@[simp] def iEnum (f : Eo) : Ei := fun δ => (f δ).bind fun p => match p.1 with
  | .val (.list xs) => some ((enumD 0 xs, none), p.2)
  | .val (.tuple xs) => some ((enumD 0 xs, none), p.2)
  | _ => none
/-- zip, of two that are data -/
def zipD : List D → List D → List D
  | x :: xs, y :: ys => .tuple [x, y] :: zipD xs ys
  | _, _ => []
@[simp] def iZip (f g : Eo) : Ei := fun δ => (f δ).bind fun p => (g p.2).bind fun q => match p.1, q.1 with
  | .val (.list xs), .val (.list ys) => some ((zipD xs ys, none), q.2)
  | .val (.tuple xs), .val (.tuple ys) => some ((zipD xs ys, none), q.2)
  | _, _ => none
/-- reversed(range(n)), reversed(range(a, b)) -/
def iRevR1 (f : Eo) : Ei := fun δ => (f δ).bind fun p => match p.1 with
  | .val (.int j) => if -(2 ^ 60) ≤ j ∧ j < 2 ^ 60 then some ((downD ((j.toNat : Int) - 1) j.toNat, none), p.2) else none
  | _ => none
/-- an int that a range can have -/
def small (i : Int) : Bool := decide (-(2 ^ 62) ≤ i ∧ i < 2 ^ 62)
def small60 (i : Int) : Bool := decide (-(2 ^ 60) ≤ i ∧ i < 2 ^ 60)
theorem small_of {i : Int} (h : -1000000000 ≤ i ∧ i ≤ 1000000000) : small i = true := decide_eq_true ⟨by omega, by omega⟩
theorem small60_of {i : Int} (h : -1000000000 ≤ i ∧ i ≤ 1000000000) : small60 i = true := decide_eq_true ⟨by omega, by omega⟩
theorem iRange1_s (f : Eo) (δ : Env) : iRange1 f δ = (f δ).bind fun p => match p.1 with
    | .val (.int j) => if small j = true then some ((rangeD 0 j.toNat, none), p.2) else none
    | _ => none := by
  unfold iRange1 small
  congr 1
  funext p
  split <;> simp only [decide_eq_true_eq]
theorem iRange2_s (f g : Eo) (δ : Env) : iRange2 f g δ = (f δ).bind fun p => (g p.2).bind fun q => match p.1, q.1 with
    | .val (.int i), .val (.int j) => if small i = true ∧ small j = true then some ((rangeD i (j - i).toNat, none), q.2) else none
    | _, _ => none := by
  unfold iRange2 small
  congr 1
  funext p
  congr 1
  funext q
  split <;> simp only [decide_eq_true_eq, and_assoc]
theorem iDown_s (f g : Eo) (δ : Env) : iDown f g δ = (f δ).bind fun p => (g p.2).bind fun q => match p.1, q.1 with
    | .val (.int i), .val (.int j) => if small60 i = true ∧ small60 j = true then some ((downD i (i - j).toNat, none), q.2) else none
    | _, _ => none := by
  unfold iDown small60
  congr 1
  funext p
  congr 1
  funext q
  split <;> simp only [decide_eq_true_eq, and_assoc]
theorem iRange1_at {f : Eo} {δ δ1 : Env} {j : Int} (h1 : f δ = some (.val (.int j), δ1)) (hj : -1000000000 ≤ j ∧ j ≤ 1000000000) : iRange1 f δ = some ((rangeD 0 j.toNat, none), δ1) := by
  rw [iRange1_s, h1]
  simp only [Option.bind_some]
  rw [if_pos (small_of hj)]
theorem iRange2_at {f g : Eo} {δ δ1 δ2 : Env} {i j : Int} (h1 : f δ = some (.val (.int i), δ1)) (h2 : g δ1 = some (.val (.int j), δ2)) (hi : -1000000000 ≤ i ∧ i ≤ 1000000000) (hj : -1000000000 ≤ j ∧ j ≤ 1000000000) : iRange2 f g δ = some ((rangeD i (j - i).toNat, none), δ2) := by
  rw [iRange2_s, h1]
  simp only [Option.bind_some]
  rw [h2]
  simp only [Option.bind_some]
  rw [if_pos ⟨small_of hi, small_of hj⟩]
theorem iDown_at {f g : Eo} {δ δ1 δ2 : Env} {i j : Int} (h1 : f δ = some (.val (.int i), δ1)) (h2 : g δ1 = some (.val (.int j), δ2)) (hi : -1000000000 ≤ i ∧ i ≤ 1000000000) (hj : -1000000000 ≤ j ∧ j ≤ 1000000000) : iDown f g δ = some ((downD i (i - j).toNat, none), δ2) := by
  rw [iDown_s, h1]
  simp only [Option.bind_some]
  rw [h2]
  simp only [Option.bind_some]
  rw [if_pos ⟨small60_of hi, small60_of hj⟩]
/-- is the owned list still this one (as an owned list, or frozen)? -/
def still (δ : Env) (xs : List D) : Option Nat → Bool
  | none => true
  | some i => match δ[i]? with
    | some s => match slotD s with
      | some (.list ys) => sameAll xs ys
      | _ => false
    | none => false

/-! ### comprehensions -/
@[simp] def unAll : List Nat → Env → Option Env
  | [], δ => some δ
  | i :: is, δ => match δ[i]? with
    | some .un => unAll is δ
    | some (.dat _) => unAll is (δ.set i .un)
    | _ => none
@[simp] def backAll (δ0 : Env) : List Nat → Env → Env
  | [], δ => δ
  | i :: is, δ => backAll δ0 is (match δ0[i]? with
    | some s => δ.set i s
    | none => δ)
/-- the turns of a comprehension: each begins with its own names unset -/
def lcGo (vs : List Nat) (g : Tg) (t : Et) (e : Ev) (src : List D) (ow : Option Nat) : List D → Env → Option (List D × Env)
  | [], δ => if still δ src ow = true then some ([], δ) else none
  | x :: xs, δ => if still δ src ow = true then (g.put x δ).bind fun δ1 => (t δ1).bind fun p => if p.1 = true then
      (e p.2).bind fun r => (unAll vs r.2).bind fun δ2 => (lcGo vs g t e src ow xs δ2).map fun q => (r.1.toD :: q.1, q.2)
    else (unAll vs p.2).bind fun δ2 => lcGo vs g t e src ow xs δ2 else none
@[simp] def tYes : Et := fun δ => some (true, δ)
@[simp] def vLc (vs : List Nat) (it : Ei) (g : Tg) (t : Et) (e : Ev) : Ev := fun δ => (it δ).bind fun p => (unAll vs p.2).bind fun δ1 =>
  if p.1.1.length ≤ line then (lcGo vs g t e p.1.1 p.1.2 p.1.1 δ1).map fun q => (.new q.1, backAll p.2 vs q.2) else none

/-! ### statements -/
@[simp] def slotOf : Res → Slot
  | .dat d => .dat d
  | .new ds => .own ds
@[simp] def sPass : Es := fun δ => some (.nx, δ)
@[simp] def sBreak : Es := fun δ => some (.bk, δ)
@[simp] def sCont : Es := fun δ => some (.ct, δ)
@[simp] def sNever : Es := fun _ => none
@[simp] def sSeq (f g : Es) : Es := fun δ => (f δ).bind fun p => match p.1 with
  | .nx => g p.2
  | o => some (o, p.2)
@[simp] def sSet (i : Nat) (f : Ev) : Es := fun δ => (f δ).bind fun p => (setSlot p.2 i (slotOf p.1)).map fun δ' => (.nx, δ')
/-- a, b = e, e a tuple -/
@[simp] def sUnp (is : List Nat) (f : Ev) : Es := fun δ => (f δ).bind fun p => match p.1 with
  | .dat (.tuple ds) => (setDs p.2 is ds).map fun δ' => (.nx, δ')
  | _ => none
/-- several values, fresh lists kept owned; then several names at once -/
@[simp] def pEvs : List Ev → Env → Option (List Res × Env)
  | [], δ => some ([], δ)
  | f :: fs, δ => (f δ).bind fun p => (pEvs fs p.2).map fun q => (p.1 :: q.1, q.2)
@[simp] def setRs : Env → List Nat → List Res → Option Env
  | δ, [], [] => some δ
  | δ, i :: is, r :: rs => (setSlot δ i (slotOf r)).bind fun δ' => setRs δ' is rs
  | _, _, _ => none
@[simp] def sPar (is : List Nat) (fs : List Ev) : Es := fun δ => (pEvs fs δ).bind fun p => (setRs p.2 is p.1).map fun δ' => (.nx, δ')
@[simp] def sEx (f : Ev) : Es := fun δ => (f δ).map fun p => (.nx, p.2)
@[simp] def sRet (f : Ev) : Es := fun δ => (f δ).map fun p => (.rt p.1, p.2)
@[simp] def sRetN : Es := fun δ => some (.rt (.dat .none), δ)
@[simp] def sIf (t : Et) (f g : Es) : Es := fun δ => (t δ).bind fun p => if p.1 = true then f p.2 else g p.2
/-- the owned list of a variable changes -/
@[simp] def withOwn (δ : Env) (i : Nat) (k : List D → Option (List D)) : Option Env := match δ[i]? with
  | some (.own xs) => (k xs).map fun ys => δ.set i (.own ys)
  | some (.prm xs) => (k xs).map fun ys => δ.set i (.prm ys)
  | _ => none
@[simp] def sApp (i : Nat) (f : Ev) : Es := fun δ => (if ownAt δ i = true then f δ else none).bind fun p => (withOwn p.2 i fun xs => if xs.length < line then some (xs ++ [p.1.toD]) else none).map fun δ' => (.nx, δ')
@[simp] def sPop (i : Nat) : Es := fun δ => (withOwn δ i fun xs => if xs.isEmpty = true then none else some xs.dropLast).map fun δ' => (.nx, δ')
/-- x[i] = e: e first, then the place -/
@[simp] def sSetIx (i : Nat) (ix : Eo) (f : Eo) : Es := fun δ => (f δ).bind fun p => (if ownAt p.2 i = true then ix p.2 else none).bind fun q => match p.1, q.1 with
  | .val d, .val (.int k) => (withOwn q.2 i fun xs => (ixN xs.length k).map fun j => xs.set j d).map fun δ' => (.nx, δ')
  | _, _ => none
/-- x op= e, of ints -/
@[simp] def sAug (i : Nat) (op : Int → Int → Int) (f : Eo) : Es := fun δ => match δ[i]? with
  | some (.dat (.int a)) => (f δ).bind fun p => match p.1 with
    | .val (.int b) => (setSlot p.2 i (.dat (.int (op a b)))).map fun δ' => (.nx, δ')
    | _ => none
  | _ => none
/-- the turns of a for -/
def forGo (g : Tg) (b : Es) : List D → Env → Option (Out × Env)
  | [], δ => some (.nx, δ)
  | x :: xs, δ => (g.put x δ).bind fun δ1 => (b δ1).bind fun p => match p.1 with
    | .nx => forGo g b xs p.2
    | .ct => forGo g b xs p.2
    | .bk => some (.nx, p.2)
    | .rt r => some (.rt r, p.2)
    | .ro i => some (.ro i, p.2)
@[simp] def sFor (it : Ei) (g : Tg) (b : Es) : Es := fun δ => (it δ).bind fun p => if p.1.2 = none then forGo g b p.1.1 p.2 else none
/-- the turns of a while, at most so many -/
def whileGo (t : Et) (b : Es) : Nat → Env → Option (Out × Env)
  | 0, _ => none
  | n + 1, δ => (t δ).bind fun p => if p.1 = true then (b p.2).bind fun q => match q.1 with
      | .nx => whileGo t b n q.2
      | .ct => whileGo t b n q.2
      | .bk => some (.nx, q.2)
      | .rt r => some (.rt r, q.2)
      | .ro i => some (.ro i, q.2)
    else some (.nx, p.2)
def turns : Nat := 1000000
@[simp] def sWhile (t : Et) (b : Es) : Es := fun δ => whileGo t b turns δ

/-! ### functions -/
/-- the parameters (the first by reference: byRef), the number of names, the body -/
structure Fn where
  byRef : Bool
  nps : Nat
  names : Nat
  body : Es
@[simp] def Fn.run (F : Fn) : Fnc := fun r ds =>
  let δ0 : Option Env := match F.byRef, r with
    | true, some xs => if ds.length + 1 = F.nps then some (.prm xs :: (ds.map .dat ++ List.replicate (F.names - F.nps) .un)) else none
    | false, none => if ds.length = F.nps then some (ds.map .dat ++ List.replicate (F.names - F.nps) .un) else none
    | _, _ => none
  δ0.bind fun δ0 => (F.body δ0).bind fun p =>
    let r : Option Res := match p.1 with
      | .nx => some (.dat .none)
      | .rt r => some r
      | _ => none
    r.bind fun r => match F.byRef, (p.2[0]? : Option Slot) with
      | true, some (.prm ys) => some (r, some ys)
      | false, _ => some (r, none)
      | _, _ => none
/-! ### the same, for simp -/
@[simp] theorem still_none (δ : Env) (xs : List D) : still δ xs none = true := rfl
@[simp] def asB : Res → Option Bool
  | .dat (.bool b) => some b
  | _ => none
@[simp] theorem vAnd_s (f g : Ev) (δ : Env) : vAnd f g δ = (f δ).bind fun p => (asB p.1).bind fun b => if b = true then g p.2 else some (.dat (.bool false), p.2) := by
  unfold vAnd
  cases f δ with
  | none => rfl
  | some p =>
    obtain ⟨r, δ'⟩ := p
    cases r with
    | new _ => rfl
    | dat d => cases d with
      | bool b => cases b <;> rfl
      | _ => rfl
@[simp] theorem vOr_s (f g : Ev) (δ : Env) : vOr f g δ = (f δ).bind fun p => (asB p.1).bind fun b => if b = true then some (.dat (.bool true), p.2) else g p.2 := by
  unfold vOr
  cases f δ with
  | none => rfl
  | some p =>
    obtain ⟨r, δ'⟩ := p
    cases r with
    | new _ => rfl
    | dat d => cases d with
      | bool b => cases b <;> rfl
      | _ => rfl
@[simp] theorem vChain_s (o1 o2 : D → D → Option Res) (f g h : Eo) (δ : Env) : vChain o1 o2 f g h δ =
    (f δ).bind fun p => (g p.2).bind fun q => (rd q.2 p.1).bind fun x => (rd q.2 q.1).bind fun y => (o1 x y).bind fun r => (asB r).bind fun b =>
      if b = true then (h q.2).bind fun u => (rd u.2 q.1).bind fun y' => (rd u.2 u.1).bind fun z => (o2 y' z).map fun r => (r, u.2) else some (.dat (.bool false), q.2) := by
  unfold vChain
  congr 1
  funext p
  congr 1
  funext q
  congr 1
  funext x
  congr 1
  funext y
  congr 1
  funext r
  cases r with
  | new _ => rfl
  | dat d => cases d with
    | bool b => cases b <;> rfl
    | _ => rfl
end IP
end
section
set_option Elab.async false
set_option linter.all false
set_option maxRecDepth 100000
set_option maxHeartbeats 2000000
/-! Snd: what a piece of the text does to the environment of data is what IP says. -/
namespace IP
open PySem L2

def Sub (A B : Hp) : Prop := ∀ a o, A a = some o → B a = some o
theorem Sub.refl (H : Hp) : Sub H H := fun _ _ h => h
theorem Sub.trans {A B C : Hp} (h : Sub A B) (g : Sub B C) : Sub A C := fun a o e => g a o (h a o e)
theorem Sub.new {H : Hp} {p : Addr} {o : HO} (h : H p = none) : Sub H (upd H p o) := fun a u e => by
  rw [upd_ne (ne_of_none e h)]
  exact e
theorem Sub.none {A B : Hp} (h : Sub A B) {p : Addr} (e : B p = Option.none) : A p = Option.none := by
  cases q : A p with
  | none => rfl
  | some o =>
    rw [h p o q] at e
    cases e

theorem Rd.sub {A B : Hp} (h : Sub A B) {a : Addr} {u : HO} (r : Rd A a u) : Rd B a u := by
  rcases r with r | ⟨o, r⟩
  · exact .inl (h _ _ r)
  · exact .inr ⟨o, h _ _ r⟩
theorem SqL.sub {A B : Hp} (h : Sub A B) {K : PySem.W.Frag} {a : Addr} {xs : List V} (r : SqL K A a xs) : SqL K B a xs := by
  rcases r with r | r
  · exact .inl (Rd.sub h r)
  · exact .inr r
theorem SqT.sub {A B : Hp} (h : Sub A B) {K : PySem.W.Frag} {a : Addr} {xs : List V} (r : SqT K A a xs) : SqT K B a xs := by
  rcases r with r | r
  · exact .inl (Rd.sub h r)
  · exact .inr r

/-! ### a value and its data -/
mutual
inductive Rel (K : PySem.W.Frag) (H : Hp) : V → D → Prop
  | non : Rel K H .non .none
  | bl (b : Bool) : Rel K H (.bl b) (.bool b)
  | int (i : Int) : Rel K H (.int i) (.int i)
  | str (x : Str) : Rel K H (.str x) (.str x)
  | lst {a : Addr} {xs : List V} {ds : List D} : H a = some (.lst xs) → RelAll K H xs ds → Rel K H (.ref a) (.list ds)
  | tup {a : Addr} {xs : List V} {ds : List D} : SqT K H a xs → RelAll K H xs ds → Rel K H (.ref a) (.tuple ds)
  | scr {a : Addr} {ns : List Int} : SqL K H a (ns.map V.int) → Rel K H (.ref a) (scr ns)
inductive RelAll (K : PySem.W.Frag) (H : Hp) : List V → List D → Prop
  | nil : RelAll K H [] []
  | cons {v : V} {vs : List V} {d : D} {ds : List D} : Rel K H v d → RelAll K H vs ds → RelAll K H (v :: vs) (d :: ds)
end
section
variable {K : PySem.W.Frag} {A B : Hp}
mutual
theorem Rel.sub (h : Sub A B) : ∀ {v : V} {d : D}, Rel K A v d → Rel K B v d
  | _, _, .non => .non
  | _, _, .bl b => .bl b
  | _, _, .int i => .int i
  | _, _, .str x => .str x
  | _, _, .lst e r => .lst (h _ _ e) (RelAll.sub h r)
  | _, _, .tup e r => .tup (SqT.sub h e) (RelAll.sub h r)
  | _, _, .scr e => .scr (SqL.sub h e)
theorem RelAll.sub (h : Sub A B) : ∀ {vs : List V} {ds : List D}, RelAll K A vs ds → RelAll K B vs ds
  | _, _, .nil => .nil
  | _, _, .cons r t => .cons (Rel.sub h r) (RelAll.sub h t)
end
theorem RelAll.length : ∀ {vs : List V} {ds : List D}, RelAll K A vs ds → vs.length = ds.length
  | _, _, .nil => rfl
  | _, _, .cons _ t => by rw [List.length_cons, List.length_cons, RelAll.length t]
theorem RelAll.append : ∀ {vs ws : List V} {ds es : List D}, RelAll K A vs ds → RelAll K A ws es → RelAll K A (vs ++ ws) (ds ++ es)
  | _, _, _, _, .nil, q => q
  | _, _, _, _, .cons r t, q => .cons r (RelAll.append t q)
theorem RelAll.get : ∀ {vs : List V} {ds : List D} {i : Nat} {d : D}, RelAll K A vs ds → ds[i]? = some d → ∃ v, vs[i]? = some v ∧ Rel K A v d
  | _, _, _, _, .nil, e => by simp at e
  | _, _, 0, _, .cons r t, e => by
    simp at e
    subst e
    exact ⟨_, rfl, r⟩
  | _, _, i + 1, _, .cons r t, e => by
    obtain ⟨v, h1, h2⟩ := RelAll.get (i := i) t (by simpa using e)
    exact ⟨v, by simpa using h1, h2⟩
theorem RelAll.getV : ∀ {vs : List V} {ds : List D} {i : Nat} {v : V}, RelAll K A vs ds → vs[i]? = some v → ∃ d, ds[i]? = some d ∧ Rel K A v d
  | _, _, _, _, .nil, e => by simp at e
  | _, _, 0, _, .cons r t, e => by
    simp at e
    subst e
    exact ⟨_, rfl, r⟩
  | _, _, i + 1, _, .cons r t, e => by
    obtain ⟨v, h1, h2⟩ := RelAll.getV (i := i) t (by simpa using e)
    exact ⟨v, by simpa using h1, h2⟩
theorem RelAll.take : ∀ {vs : List V} {ds : List D} (n : Nat), RelAll K A vs ds → RelAll K A (vs.take n) (ds.take n)
  | _, _, 0, _ => .nil
  | _, _, _ + 1, .nil => .nil
  | _, _, n + 1, .cons r t => .cons r (RelAll.take n t)
theorem RelAll.drop : ∀ {vs : List V} {ds : List D} (n : Nat), RelAll K A vs ds → RelAll K A (vs.drop n) (ds.drop n)
  | _, _, 0, r => r
  | _, _, _ + 1, .nil => .nil
  | _, _, n + 1, .cons _ t => RelAll.drop n t
theorem RelAll.set {v : V} {d : D} (q : Rel K A v d) : ∀ {vs : List V} {ds : List D} (n : Nat), RelAll K A vs ds → RelAll K A (vs.set n v) (ds.set n d)
  | _, _, _, .nil => .nil
  | _, _, 0, .cons r t => .cons q t
  | _, _, n + 1, .cons r t => .cons r (RelAll.set q n t)
theorem RelAll.dropLast : ∀ {vs : List V} {ds : List D}, RelAll K A vs ds → RelAll K A vs.dropLast ds.dropLast := fun {vs ds} r => by
  rw [List.dropLast_eq_take, List.dropLast_eq_take, r.length]
  exact r.take _
theorem RelAll.rep : ∀ {vs : List V} {ds : List D} (n : Nat), RelAll K A vs ds → RelAll K A (List.replicate n vs).flatten (List.replicate n ds).flatten
  | _, _, 0, _ => .nil
  | _, _, n + 1, r => by
    rw [List.replicate_succ, List.replicate_succ, List.flatten_cons, List.flatten_cons]
    exact r.append (RelAll.rep n r)
theorem RelAll.reverse : ∀ {vs : List V} {ds : List D}, RelAll K A vs ds → RelAll K A vs.reverse ds.reverse
  | _, _, .nil => .nil
  | _, _, .cons r t => by
    rw [List.reverse_cons, List.reverse_cons]
    exact (RelAll.reverse t).append (.cons r .nil)
theorem RelAll.ints : ∀ {vs : List V} {ds : List D} {is : List Int}, RelAll K A vs ds → intsOf ds = some is → vs = is.map V.int
  | _, _, is, .nil, e => by
    simp [intsOf] at e
    subst e
    rfl
  | _, _, is, .cons (d := d) (ds := ds) r t, e => by
    cases r with
    | int i =>
      simp only [intsOf, Option.map_eq_some_iff] at e
      obtain ⟨js, h1, rfl⟩ := e
      rw [RelAll.ints t h1]
      rfl
    | _ => simp [intsOf, IP.scr] at e
theorem RelAll.bools : ∀ {vs : List V} {ds : List D} {is : List Bool}, RelAll K A vs ds → boolsOf ds = some is → vs = is.map V.bl
  | _, _, is, .nil, e => by
    simp [boolsOf] at e
    subst e
    rfl
  | _, _, is, .cons (d := d) (ds := ds) r t, e => by
    cases r with
    | bl i =>
      simp only [boolsOf, Option.map_eq_some_iff] at e
      obtain ⟨js, h1, rfl⟩ := e
      rw [RelAll.bools t h1]
      rfl
    | _ => simp [boolsOf, IP.scr] at e
theorem relAll_ints {is : List Int} : RelAll K A (is.map V.int) (is.map PyData.int) := by
  induction is with
  | nil => exact .nil
  | cons i is ih => exact .cons (.int i) ih
/-- a value without lists does not read lists -/
theorem Rel.dp : ∀ {v : V} {d : D}, Rel K A v d → SeqAt.shaped d = true → Dp K A v d := by
  have main : (∀ (v : V) (d : D), Rel K A v d → PyData.canLay0 d = true → Dp K A v d) := by
    intro v d r
    refine Rel.rec (motive_1 := fun v d _ => PyData.canLay0 d = true → Dp K A v d) (motive_2 := fun vs ds _ => PyData.canLayAll0 ds = true → DpAll K A vs ds) ?_ ?_ ?_ ?_ ?_ ?_ ?_ ?_ ?_ r
    · intro _; exact .non
    · intro b _; exact .bl b
    · intro i _; exact .int i
    · intro x _; exact .str x
    · intro a xs ds e r ih c
      exact .lst (SqL.of e) (ih (by simpa [PyData.canLay0] using c))
    · intro a xs ds e r ih c
      exact .tup e (ih (by simpa [PyData.canLay0] using c))
    · intro a ns e c
      simp [IP.scr, PyData.canLay0] at c
    · intro _; exact .nil
    · intro v vs d ds r1 r2 h1 h2 c
      have c' : PyData.canLay0 d = true ∧ PyData.canLayAll0 ds = true := by simpa [PyData.canLayAll0] using c
      exact .cons (h1 c'.1) (h2 c'.2)
  intro v d r h
  exact main v d r (SeqAt.canLay_of_shaped h)
end

/-! ### the state: the frozen part H0 of the heap, the owned lists and objects -/
/-- the class of the objects -/
def GC (K : PySem.W.Frag) : Addr := He.ga K "Growth"
def gFs (v0 : V) (q : Addr) (v2 v3 v4 v5 : V) : List (Str × V) := [("prime", v0), ("row", .ref q), ("length", v2), ("low", v3), ("older", v4), ("shift", v5)]
structure ObjV (K : PySem.W.Frag) (A H : Hp) (p q : Addr) (fs : List D) (dx : Addr) (v0 v2 v3 v4 v5 : V) (rs : List V) (d0 : D) (ds : List D) (d2 d3 d4 d5 : D) : Prop where
  fs : fs = [d0, .list ds, d2, d3, d4, d5]
  hp : H p = some (.ins (GC K) dx (gFs v0 q v2 v3 v4 v5))
  hq : H q = some (.lst rs)
  rr : RelAll K A rs ds
  r0 : Rel K A v0 d0
  r2 : Rel K A v2 d2
  r3 : Rel K A v3 d3
  r4 : Rel K A v4 d4
  r5 : Rel K A v5 d5
  np : A p = none
  nq : A q = none
/-- an object of the fields fs stands at p, its own list at q -/
def ObAt (K : PySem.W.Frag) (A H : Hp) (p q : Addr) (fs : List D) : Prop := ∃ dx v0 v2 v3 v4 v5 rs d0 ds d2 d3 d4 d5, ObjV K A H p q fs dx v0 v2 v3 v4 v5 rs d0 ds d2 d3 d4 d5
def RowOf (H : Hp) (p q : Addr) : Prop := ∃ C dx v0 v2 v3 v4 v5, H p = some (.ins C dx (gFs v0 q v2 v3 v4 v5))
theorem RowOf.inj {H : Hp} {p q q' : Addr} (h : RowOf H p q) (h' : RowOf H p q') : q = q' := by
  obtain ⟨C, dx, a, b, c, d, e, x⟩ := h
  obtain ⟨C', dx', a', b', c', d', e', y⟩ := h'
  rw [x] at y
  simp only [gFs, Option.some.injEq, HO.ins.injEq, List.cons.injEq, Prod.mk.injEq, true_and, and_true] at y
  have := y.2.2.2.1
  cases this
  rfl
theorem ObAt.row {K : PySem.W.Frag} {A H : Hp} {p q : Addr} {fs : List D} (h : ObAt K A H p q fs) : RowOf H p q := by
  obtain ⟨dx, v0, v2, v3, v4, v5, rs, d0, ds, d2, d3, d4, d5, h⟩ := h
  exact ⟨_, _, _, _, _, _, _, h.hp⟩
theorem ObAt.np {K : PySem.W.Frag} {A H : Hp} {p q : Addr} {fs : List D} (h : ObAt K A H p q fs) : A p = none := by
  obtain ⟨dx, v0, v2, v3, v4, v5, rs, d0, ds, d2, d3, d4, d5, h⟩ := h
  exact h.np
theorem ObAt.nq {K : PySem.W.Frag} {A H : Hp} {p q : Addr} {fs : List D} (h : ObAt K A H p q fs) : A q = none := by
  obtain ⟨dx, v0, v2, v3, v4, v5, rs, d0, ds, d2, d3, d4, d5, h⟩ := h
  exact h.nq
theorem ObAt.hp {K : PySem.W.Frag} {A H : Hp} {p q : Addr} {fs : List D} (h : ObAt K A H p q fs) : ∃ C dx l, H p = some (.ins C dx l) := by
  obtain ⟨dx, v0, v2, v3, v4, v5, rs, d0, ds, d2, d3, d4, d5, h⟩ := h
  exact ⟨_, _, _, h.hp⟩
theorem ObAt.hq {K : PySem.W.Frag} {A H : Hp} {p q : Addr} {fs : List D} (h : ObAt K A H p q fs) : ∃ rs, H q = some (.lst rs) := by
  obtain ⟨dx, v0, v2, v3, v4, v5, rs, d0, ds, d2, d3, d4, d5, h⟩ := h
  exact ⟨_, h.hq⟩
theorem ObAt.ne {K : PySem.W.Frag} {A H : Hp} {p q : Addr} {fs : List D} (h : ObAt K A H p q fs) : p ≠ q := fun z => by
  obtain ⟨C, dx, l, e⟩ := h.hp
  obtain ⟨rs, e'⟩ := h.hq
  rw [z, e'] at e
  cases e
theorem ObAt.mono {K : PySem.W.Frag} {A A' H H' : Hp} {p q : Addr} {fs : List D} (h : ObAt K A H p q fs) (s : Sub A A') (hp : H' p = H p) (hq : H' q = H q) (np : A' p = none) (nq : A' q = none) : ObAt K A' H' p q fs := by
  obtain ⟨dx, v0, v2, v3, v4, v5, rs, d0, ds, d2, d3, d4, d5, h⟩ := h
  exact ⟨dx, v0, v2, v3, v4, v5, rs, d0, ds, d2, d3, d4, d5, h.fs, hp ▸ h.hp, hq ▸ h.hq, h.rr.sub s, h.r0.sub s, h.r2.sub s, h.r3.sub s, h.r4.sub s, h.r5.sub s, np, nq⟩
/-- the entry of a def: the written part, the heap, its frozen part, the lists and objects by reference (slot, address), the objects' own lists -/
structure Gx where
  K : PySem.W.Frag
  H : Hp
  H0 : Hp
  pr : List (Nat × Addr)
  qs : List Addr
def isOwn : Slot → Bool
  | .own _ => true
  | .prm _ => true
  | .obj _ => true
  | .pob _ => true
  | _ => false
def isOb : Slot → Bool
  | .obj _ => true
  | .pob _ => true
  | _ => false
def isPrm : Slot → Bool
  | .prm _ => true
  | .pob _ => true
  | _ => false
/-- what a slot's thing is made of -/
def Foot (H : Hp) (σ : L2.St) (i : Nat) (s : Slot) (a : Addr) : Prop := ∃ p, σ[i]? = some (some (V.ref p)) ∧ (a = p ∨ (isOb s = true ∧ RowOf H p a))
def Holds (H : Hp) (δ : Env) (σ : L2.St) (i : Nat) (a : Addr) : Prop := ∃ s, δ[i]? = some s ∧ isOwn s = true ∧ Foot H σ i s a
theorem Holds.of {H : Hp} {δ : Env} {σ : L2.St} {i : Nat} {a : Addr} {s : Slot} (h1 : δ[i]? = some s) (h2 : isOwn s = true) (h3 : σ[i]? = some (some (V.ref a))) : Holds H δ σ i a := ⟨s, h1, h2, a, h3, .inl rfl⟩
theorem Holds.ofRow {H : Hp} {δ : Env} {σ : L2.St} {i : Nat} {p a : Addr} {s : Slot} (h1 : δ[i]? = some s) (h2 : isOwn s = true) (h4 : isOb s = true) (h3 : σ[i]? = some (some (V.ref p))) (h5 : RowOf H p a) : Holds H δ σ i a := ⟨s, h1, h2, p, h3, .inr ⟨h4, h5⟩⟩
def SlotOk (G : Gx) (H0 H : Hp) (σ : L2.St) (i : Nat) : Slot → Prop
  | .un => True
  | .dat d => ∃ v, σ[i]? = some (some v) ∧ Rel G.K H0 v d
  | .own ds => ∃ p vs, σ[i]? = some (some (.ref p)) ∧ H p = some (.lst vs) ∧ RelAll G.K H0 vs ds ∧ H0 p = none ∧ G.H p = none
  | .prm ds => ∃ p vs, σ[i]? = some (some (.ref p)) ∧ (i, p) ∈ G.pr ∧ H p = some (.lst vs) ∧ RelAll G.K H0 vs ds ∧ H0 p = none
  | .obj fs => ∃ p q, σ[i]? = some (some (.ref p)) ∧ ObAt G.K H0 H p q fs ∧ G.H p = none ∧ G.H q = none
  | .pob fs => ∃ p q, σ[i]? = some (some (.ref p)) ∧ (i, p) ∈ G.pr ∧ q ∈ G.qs ∧ ObAt G.K H0 H p q fs
structure Rl (G : Gx) (H0 H : Hp) (δ : Env) (σ : L2.St) : Prop where
  len : σ.length = δ.length
  sub : Sub H0 H
  up : Sub G.H0 H0
  keep : ∀ a o, G.H a = some o → (∀ p ∈ G.pr, p.2 ≠ a) → a ∉ G.qs → H a = some o
  fro : ∀ a o, H0 a = some o → (∃ u, G.H0 a = some u) ∨ G.H a = none
  slot : ∀ i s, δ[i]? = some s → SlotOk G H0 H σ i s
  inj : ∀ i j p, Holds H δ σ i p → Holds H δ σ j p → i = j
  prs : ∀ p ∈ G.pr, ∃ s : Slot, δ[p.1]? = some s ∧ isPrm s = true ∧ σ[p.1]? = some (some (V.ref p.2))
  qrs : ∀ q ∈ G.qs, ∃ (i : Nat) (fs : List D) (p : Addr), δ[i]? = some (Slot.pob fs) ∧ σ[i]? = some (some (V.ref p)) ∧ RowOf H p q
def ResOk (G : Gx) (H0 H : Hp) (δ : Env) (σ : L2.St) : Res → V → Prop
  | .dat d, v => Rel G.K H0 v d
  | .new ds, v => ∃ p vs, v = .ref p ∧ H p = some (.lst vs) ∧ RelAll G.K H0 vs ds ∧ H0 p = none ∧ G.H p = none ∧ ∀ i, ¬ Holds H δ σ i p
def OpdOk (G : Gx) (H0 : Hp) (σ : L2.St) : Opd → V → Prop
  | .val d, v => Rel G.K H0 v d
  | .at i, v => σ[i]? = some (some v)
/-- the object itself in H, what it holds in H0 -/
def RelT (K : PySem.W.Frag) (H0 H : Hp) (v : V) (d : D) : Prop := Rel K H0 v d ∨ ∃ a xs ds, d = .list ds ∧ v = .ref a ∧ H a = some (.lst xs) ∧ RelAll K H0 xs ds
theorem prm_own {s : Slot} (h : isPrm s = true) : isOwn s = true := by cases s <;> first | rfl | cases h
section
variable {G : Gx} {H0 H H0' H' : Hp} {δ δ' : Env} {σ : L2.St} {p : Addr} {o : HO} {i j : Nat} {v : V} {d : D} {ds : List D} {vs : List V}
/-- where the objects stand -/
theorem Rl.ob (R : Rl G H0 H δ σ) {s : Slot} (e : δ[i]? = some s) (h : isOb s = true) (hi : σ[i]? = some (some (.ref p))) : ∃ q fs, ObAt G.K H0 H p q fs ∧ (s = .obj fs ∨ s = .pob fs) := by
  have sj := R.slot i s e
  cases s with
  | obj fs =>
    obtain ⟨p', q, e1, e2, _⟩ := sj
    rw [hi] at e1
    cases e1
    exact ⟨q, fs, e2, .inl rfl⟩
  | pob fs =>
    obtain ⟨p', q, e1, _, _, e2⟩ := sj
    rw [hi] at e1
    cases e1
    exact ⟨q, fs, e2, .inr rfl⟩
  | _ => cases h
/-- all that a slot's thing is made of is there, is not frozen, and is new or by reference -/
theorem Rl.held (R : Rl G H0 H δ σ) {a : Addr} (h : Holds H δ σ i a) : (∃ o, H a = some o) ∧ H0 a = none ∧ (G.H a = none ∨ (∃ z ∈ G.pr, z.2 = a) ∨ a ∈ G.qs) := by
  obtain ⟨s, e1, e2, p, e3, e4⟩ := h
  have sj := R.slot i s e1
  cases s with
  | own ds =>
    obtain ⟨p', vs, x1, x2, x3, x4, x5⟩ := sj
    rw [e3] at x1
    cases x1
    rcases e4 with rfl | ⟨z, _⟩
    · exact ⟨⟨_, x2⟩, x4, .inl x5⟩
    · cases z
  | prm ds =>
    obtain ⟨p', vs, x1, x0, x2, x3, x4⟩ := sj
    rw [e3] at x1
    cases x1
    rcases e4 with rfl | ⟨z, _⟩
    · exact ⟨⟨_, x2⟩, x4, .inr (.inl ⟨_, x0, rfl⟩)⟩
    · cases z
  | obj fs =>
    obtain ⟨p', q, x1, x2, x3, x4⟩ := sj
    rw [e3] at x1
    cases x1
    rcases e4 with rfl | ⟨_, z⟩
    · obtain ⟨C, dx, l, y⟩ := x2.hp
      exact ⟨⟨_, y⟩, x2.np, .inl x3⟩
    · obtain rfl := z.inj x2.row
      obtain ⟨rs, y⟩ := x2.hq
      exact ⟨⟨_, y⟩, x2.nq, .inl x4⟩
  | pob fs =>
    obtain ⟨p', q, x1, x0, x3, x2⟩ := sj
    rw [e3] at x1
    cases x1
    rcases e4 with rfl | ⟨_, z⟩
    · obtain ⟨C, dx, l, y⟩ := x2.hp
      exact ⟨⟨_, y⟩, x2.np, .inr (.inl ⟨_, x0, rfl⟩)⟩
    · obtain rfl := z.inj x2.row
      obtain ⟨rs, y⟩ := x2.hq
      exact ⟨⟨_, y⟩, x2.nq, .inr (.inr x3)⟩
  | _ => cases e2
theorem Rl.prHold (R : Rl G H0 H δ σ) {z : Nat × Addr} (h : z ∈ G.pr) : Holds H δ σ z.1 z.2 := by
  obtain ⟨s, e1, e2, e3⟩ := R.prs z h
  exact .of e1 (prm_own e2) e3
theorem Rl.qrHold (R : Rl G H0 H δ σ) {q : Addr} (h : q ∈ G.qs) : ∃ i, Holds H δ σ i q := by
  obtain ⟨i, fs, p, e1, e2, e3⟩ := R.qrs q h
  exact ⟨i, .ofRow e1 rfl rfl e2 e3⟩
/-- a thing that nobody holds stays what it was at the entry -/
theorem Rl.keepN (R : Rl G H0 H δ σ) {a : Addr} (h : ∀ i, ¬ Holds H δ σ i a) (e : G.H a = some o) : H a = some o :=
  R.keep a o e (fun z hz e => h z.1 (e ▸ R.prHold hz)) (fun hq => by
    obtain ⟨i, hi⟩ := R.qrHold hq
    exact h i hi)
/-- the objects stand in another heap too -/
theorem RowOf.in {H H' : Hp} {p q : Addr} (h : RowOf H p q) (k : ∀ o, H p = some o → (∀ xs, o ≠ .lst xs) → H' p = some o) : RowOf H' p q := by
  obtain ⟨C, dx, a, b, c, d, e, x⟩ := h
  exact ⟨C, dx, a, b, c, d, e, k _ x fun _ z => nomatch z⟩
theorem Rl.holdsOf (R : Rl G H0 H δ σ) (k : ∀ a o, H a = some o → (∀ xs, o ≠ .lst xs) → H' a = some o) {a : Addr} (h : Holds H' δ σ i a) : Holds H δ σ i a := by
  obtain ⟨s, e1, e2, p, e3, e4⟩ := h
  refine ⟨s, e1, e2, p, e3, ?_⟩
  rcases e4 with e4 | ⟨e4, e5⟩
  · exact .inl e4
  · obtain ⟨q, fs, ob, _⟩ := R.ob e1 e4 e3
    have r := ob.row.in (k p)
    rw [e5.inj r]
    exact .inr ⟨e4, ob.row⟩
theorem keep_new (hp : H p = none) : ∀ a o', H a = some o' → (∀ xs, o' ≠ .lst xs) → upd H p o a = some o' := fun a o' e _ => Sub.new hp a o' e
theorem keep_lst {us ws : List V} (hp : H p = some (.lst us)) : ∀ a o', H a = some o' → (∀ xs, o' ≠ .lst xs) → upd H p (.lst ws) a = some o' := fun a o' e n => by
  by_cases ha : a = p
  · rw [ha, hp] at e
    cases e
    exact absurd rfl (n us)
  · rw [upd_ne ha]
    exact e
theorem keep_sub (h : Sub H H') : ∀ a o', H a = some o' → (∀ xs, o' ≠ .lst xs) → H' a = some o' := fun a o' e _ => h a o' e
theorem Rl.fresh (R : Rl G H0 H δ σ) (hp : H p = none) : H0 p = none ∧ G.H p = none ∧ ∀ i, ¬ Holds H δ σ i p := by
  have nh : ∀ i, ¬ Holds H δ σ i p := fun i h => by
    obtain ⟨⟨o, e⟩, _⟩ := R.held h
    rw [hp] at e
    cases e
  refine ⟨R.sub.none hp, ?_, nh⟩
  cases q : G.H p with
  | none => rfl
  | some o =>
    have := R.keepN nh q
    rw [hp] at this
    cases this
theorem SlotOk.mono {s : Slot} (h : SlotOk G H0 H σ i s) (h0 : Sub H0 H0') (hH : ∀ a o, H a = some o → isOwn s = true → Foot H σ i s a → H' a = some o) (hn : ∀ a, isOwn s = true → Foot H σ i s a → H0 a = none → H0' a = none) : SlotOk G H0' H' σ i s := by
  have ob : ∀ {p q : Addr} {fs : List D}, isOb s = true → isOwn s = true → σ[i]? = some (some (.ref p)) → ObAt G.K H0 H p q fs → ObAt G.K H0' H' p q fs := fun {p q fs} b1 b2 e1 e2 => by
    have f1 : Foot H σ i s p := ⟨p, e1, .inl rfl⟩
    have f2 : Foot H σ i s q := ⟨p, e1, .inr ⟨b1, e2.row⟩⟩
    obtain ⟨C, dx, l, y⟩ := e2.hp
    obtain ⟨rs, y'⟩ := e2.hq
    exact e2.mono h0 ((hH p _ y b2 f1).trans y.symm) ((hH q _ y' b2 f2).trans y'.symm) (hn p b2 f1 e2.np) (hn q b2 f2 e2.nq)
  cases s with
  | un => trivial
  | dat d =>
    obtain ⟨v, e, r⟩ := h
    exact ⟨v, e, r.sub h0⟩
  | own ds =>
    obtain ⟨p, vs, e1, e2, e3, e4, e5⟩ := h
    exact ⟨p, vs, e1, hH p _ e2 rfl ⟨p, e1, .inl rfl⟩, e3.sub h0, hn p rfl ⟨p, e1, .inl rfl⟩ e4, e5⟩
  | prm ds =>
    obtain ⟨p, vs, e1, e0, e2, e3, e4⟩ := h
    exact ⟨p, vs, e1, e0, hH p _ e2 rfl ⟨p, e1, .inl rfl⟩, e3.sub h0, hn p rfl ⟨p, e1, .inl rfl⟩ e4⟩
  | obj fs =>
    obtain ⟨p, q, e1, e2, e3⟩ := h
    exact ⟨p, q, e1, ob rfl rfl e1 e2, e3⟩
  | pob fs =>
    obtain ⟨p, q, e1, e0, e2, e3⟩ := h
    exact ⟨p, q, e1, e0, e2, ob rfl rfl e1 e3⟩
theorem Rl.qrsOf (R : Rl G H0 H δ σ) (k : ∀ a o, H a = some o → (∀ xs, o ≠ .lst xs) → H' a = some o) : ∀ q ∈ G.qs, ∃ (i : Nat) (fs : List D) (p : Addr), δ[i]? = some (Slot.pob fs) ∧ σ[i]? = some (some (V.ref p)) ∧ RowOf H' p q := fun q hq => by
  obtain ⟨i, fs, p, e1, e2, e3⟩ := R.qrs q hq
  exact ⟨i, fs, p, e1, e2, e3.in (k p)⟩
/-- a new object that nobody names yet -/
theorem Rl.laid (R : Rl G H0 H δ σ) (hp : H p = none) : Rl G H0 (upd H p o) δ σ := by
  refine ⟨R.len, R.sub.trans (Sub.new hp), R.up, fun a u e h h' => Sub.new hp a u (R.keep a u e h h'), R.fro, fun i s e => ?_, fun i j a h1 h2 => R.inj i j a (R.holdsOf (keep_new hp) h1) (R.holdsOf (keep_new hp) h2), R.prs, R.qrsOf (keep_new hp)⟩
  exact (R.slot i s e).mono (Sub.refl _) (fun a vs e _ _ => Sub.new hp a _ e) (fun _ _ _ h => h)
/-- an object is frozen -/
theorem Rl.froze (R : Rl G H0 H δ σ) (hp : H p = some o) (h0 : H0 p = none) (hG : G.H p = none) (hh : ∀ i, ¬ Holds H δ σ i p) : Rl G (upd H0 p o) H δ σ := by
  refine ⟨R.len, fun a u e => ?_, R.up.trans (Sub.new h0), R.keep, fun a u e => ?_, fun i s e => ?_, R.inj, R.prs, R.qrs⟩
  · by_cases ha : a = p
    · subst ha
      rw [upd_same] at e
      cases e
      exact hp
    · rw [upd_ne ha] at e
      exact R.sub a u e
  · by_cases ha : a = p
    · subst ha
      exact .inr hG
    · rw [upd_ne ha] at e
      exact R.fro a u e
  · refine (R.slot i s e).mono (Sub.new h0) (fun a vs e _ _ => e) (fun a hs hi hn => ?_)
    by_cases ha : a = p
    · subst ha
      exact absurd ⟨s, e, hs, hi⟩ (hh i)
    · rw [upd_ne ha]
      exact hn
/-- a new object, at once frozen -/
theorem Rl.laid0 (R : Rl G H0 H δ σ) (hp : H p = none) : Rl G (upd H0 p o) (upd H p o) δ σ ∧ Sub H0 (upd H0 p o) :=
  have f := R.fresh hp
  ⟨(R.laid (o := o) hp).froze upd_same f.1 f.2.1 (fun i h => f.2.2 i (R.holdsOf (keep_new hp) h)), Sub.new f.1⟩
/-- a result becomes data -/
theorem Rl.toD (R : Rl G H0 H δ σ) : ∀ {r : Res} {v : V}, ResOk G H0 H δ σ r v → ∃ H0', Rl G H0' H δ σ ∧ Sub H0 H0' ∧ Rel G.K H0' v r.toD
  | .dat d, v, h => ⟨H0, R, Sub.refl _, h⟩
  | .new ds, v, h => by
    obtain ⟨p, vs, rfl, e1, e2, e3, e4, e5⟩ := h
    exact ⟨_, R.froze e1 e3 e4 e5, Sub.new e3, .lst upd_same (e2.sub (Sub.new e3))⟩
theorem Rl.slotAt (R : Rl G H0 H δ σ) {s : Slot} (e : δ[i]? = some s) : SlotOk G H0 H σ i s := R.slot i s e
/-- an owned list is changed -/
theorem Rl.put (R : Rl G H0 H δ σ) {s s' : Slot} (e : δ[i]? = some s) (hs : isOwn s = true) (hi : σ[i]? = some (some (.ref p)))
    (hv : RelAll G.K H0 vs ds) (h' : (s' = .own ds ∧ ∃ xs, s = .own xs) ∨ (s' = .prm ds ∧ ∃ xs, s = .prm xs)) : Rl G H0 (upd H p (.lst vs)) (δ.set i s') σ := by
  have hlt : i < δ.length := (List.getElem?_eq_some_iff.mp e).1
  have nob : isOb s = false ∧ isOb s' = false := by rcases h' with ⟨rfl, _, rfl⟩ | ⟨rfl, _, rfl⟩ <;> exact ⟨rfl, rfl⟩
  have hlst : ∃ us, H p = some (.lst us) := by
    have := R.slot i s e
    rcases h' with ⟨_, xs, rfl⟩ | ⟨_, xs, rfl⟩
    · obtain ⟨q, us, e1, e2, _⟩ := this
      rw [hi] at e1
      cases e1
      exact ⟨us, e2⟩
    · obtain ⟨q, us, e1, _, e2, _⟩ := this
      rw [hi] at e1
      cases e1
      exact ⟨us, e2⟩
  obtain ⟨us, hus⟩ := hlst
  have kk := keep_lst (ws := vs) hus
  have hold : ∀ j q, Holds (upd H p (.lst vs)) (δ.set i s') σ j q → Holds H δ σ j q := fun j q ⟨u, u1, u2, u3⟩ => by
    by_cases hj : i = j
    · subst hj
      rw [List.getElem?_set_self hlt] at u1
      cases u1
      obtain ⟨p', y1, y2⟩ := u3
      rcases y2 with y2 | ⟨y2, _⟩
      · exact ⟨s, e, hs, p', y1, .inl y2⟩
      · rw [nob.2] at y2
        cases y2
    · rw [List.getElem?_set_ne hj] at u1
      exact R.holdsOf kk ⟨u, u1, u2, u3⟩
  have n0 : H0 p = none := (R.held (Holds.of e hs hi)).2.1
  refine ⟨by rw [List.length_set]; exact R.len, fun a u h => ?_, R.up, fun a u h hh hq => ?_, R.fro, fun j u h => ?_, fun a b q h1 h2 => R.inj a b q (hold _ _ h1) (hold _ _ h2), fun z hz => ?_, fun q hq => ?_⟩
  · rw [upd_ne (ne_of_none h n0)]
    exact R.sub a u h
  · have ha : a ≠ p := fun z => by
      subst z
      rcases (R.held (Holds.of e hs hi)).2.2 with x | ⟨z, x1, x2⟩ | x
      · rw [h] at x
        cases x
      · exact hh z x1 x2
      · exact hq x
    rw [upd_ne ha]
    exact R.keep a u h hh hq
  · by_cases hj : i = j
    · subst hj
      rw [List.getElem?_set_self hlt] at h
      cases h
      have := R.slot i s e
      rcases h' with ⟨rfl, xs, rfl⟩ | ⟨rfl, xs, rfl⟩
      · obtain ⟨q, _, e1, _, _, e2, e3⟩ := this
        rw [hi] at e1
        cases e1
        exact ⟨p, vs, hi, upd_same, hv, e2, e3⟩
      · obtain ⟨q, _, e1, e0, _, _, e2⟩ := this
        rw [hi] at e1
        cases e1
        exact ⟨p, vs, hi, e0, upd_same, hv, e2⟩
    · rw [List.getElem?_set_ne hj] at h
      refine (R.slot j u h).mono (Sub.refl _) (fun a o e' h1 h2 => ?_) (fun _ _ _ n => n)
      have ha : a ≠ p := fun z => by
        subst z
        exact hj (R.inj i j a (Holds.of e hs hi) ⟨u, h, h1, h2⟩)
      rw [upd_ne ha]
      exact e'
  · obtain ⟨u, e1, e2, e3⟩ := R.prs z hz
    by_cases hj : i = z.1
    · subst hj
      refine ⟨s', List.getElem?_set_self hlt, ?_, e3⟩
      rw [e1] at e
      cases e
      rcases h' with ⟨_, xs, rfl⟩ | ⟨rfl, _⟩
      · cases e2
      · rfl
    · exact ⟨u, by rw [List.getElem?_set_ne hj]; exact e1, e2, e3⟩
  · obtain ⟨j, fs, p', e1, e2, e3⟩ := R.qrs q hq
    refine ⟨j, fs, p', ?_, e2, e3.in (kk p')⟩
    have hj : i ≠ j := fun z => by
      subst z
      rw [e1] at e
      cases e
      cases nob.1
    rw [List.getElem?_set_ne hj]
    exact e1
/-- an owned list is frozen -/
theorem Rl.freeze (R : Rl G H0 H δ σ) (i : Nat) : ∃ H0', Rl G H0' H (freeze δ i) σ ∧ Sub H0 H0' := by
  cases e : δ[i]? with
  | none =>
    refine ⟨H0, ?_, Sub.refl _⟩
    unfold IP.freeze
    rw [e]
    exact R
  | some s =>
    cases s with
    | own xs =>
      obtain ⟨p, ws, e1, e2, e3, e4, e5⟩ := R.slot i _ e
      have hlt : i < δ.length := (List.getElem?_eq_some_iff.mp e).1
      have ef : IP.freeze δ i = δ.set i (.dat (.list xs)) := by
        unfold IP.freeze
        rw [e]
      refine ⟨upd H0 p (.lst ws), ?_, Sub.new e4⟩
      rw [ef]
      have hold : ∀ j q, Holds H (δ.set i (.dat (.list xs))) σ j q → Holds H δ σ j q ∧ j ≠ i := fun j q ⟨u, u1, u2, u3⟩ => by
        by_cases hj : i = j
        · subst hj
          rw [List.getElem?_set_self hlt] at u1
          cases u1
          cases u2
        · rw [List.getElem?_set_ne hj] at u1
          exact ⟨⟨u, u1, u2, u3⟩, Ne.symm hj⟩
      refine ⟨by rw [List.length_set]; exact R.len, fun a u h => ?_, R.up.trans (Sub.new e4), R.keep, fun a u h => ?_, fun j u h => ?_, fun a b q h1 h2 => R.inj a b q (hold _ _ h1).1 (hold _ _ h2).1, fun z hz => ?_, fun q hq => ?_⟩
      · by_cases ha : a = p
        · subst ha
          rw [upd_same] at h
          cases h
          exact e2
        · rw [upd_ne ha] at h
          exact R.sub a u h
      · by_cases ha : a = p
        · subst ha
          exact .inr e5
        · rw [upd_ne ha] at h
          exact R.fro a u h
      · by_cases hj : i = j
        · subst hj
          rw [List.getElem?_set_self hlt] at h
          cases h
          exact ⟨_, e1, .lst upd_same (e3.sub (Sub.new e4))⟩
        · rw [List.getElem?_set_ne hj] at h
          refine (R.slot j u h).mono (Sub.new e4) (fun _ _ q _ _ => q) (fun a hs hi hn => ?_)
          have ha : a ≠ p := fun z => by
            subst z
            exact hj (R.inj i j a (Holds.of e rfl e1) ⟨u, h, hs, hi⟩)
          rw [upd_ne ha]
          exact hn
      · obtain ⟨s, e6, e7, e8⟩ := R.prs z hz
        have hj : i ≠ z.1 := fun h => by
          rw [← h, e] at e6
          cases e6
          cases e7
        exact ⟨s, by rw [List.getElem?_set_ne hj]; exact e6, e7, e8⟩
      · obtain ⟨j, fs, p', e6, e7, e8⟩ := R.qrs q hq
        have hj : i ≠ j := fun h => by
          rw [← h, e] at e6
          cases e6
        exact ⟨j, fs, p', by rw [List.getElem?_set_ne hj]; exact e6, e7, e8⟩
    | _ =>
      refine ⟨H0, ?_, Sub.refl _⟩
      unfold IP.freeze
      rw [e]
      exact R
/-- a name is set -/
theorem Rl.set {r : Slot} (R : Rl G H0 H δ σ) (h : setSlot δ i r = some δ') (hr : SlotOk G H0 H (σ.set i (some v)) i r) (hnp : isPrm r = false) (hno : isOwn r = true → ∀ a, Foot H (σ.set i (some v)) i r a → ∀ j, ¬ Holds H δ σ j a) : Rl G H0 H δ' (σ.set i (some v)) := by
  unfold setSlot at h
  cases e : δ[i]? with
  | none =>
    rw [e] at h
    cases h
  | some s =>
    rw [e] at h
    have hlt : i < δ.length := (List.getElem?_eq_some_iff.mp e).1
    have hlt' : i < σ.length := by rw [R.len]; exact hlt
    have nprm : isPrm s = false := by
      cases s with
      | prm ds => cases h
      | pob ds => cases h
      | _ => rfl
    have hd : δ' = δ.set i r := by
      cases s with
      | prm ds => cases nprm
      | pob ds => cases nprm
      | _ => cases h; rfl
    subst hd
    have sig : ∀ j, i ≠ j → (σ.set i (some v))[j]? = σ[j]? := fun j hj => List.getElem?_set_ne hj
    have del : ∀ j, i ≠ j → (δ.set i r)[j]? = δ[j]? := fun j hj => List.getElem?_set_ne hj
    have ft : ∀ j u a, i ≠ j → (Foot H (σ.set i (some v)) j u a ↔ Foot H σ j u a) := fun j u a hj => by
      unfold Foot
      rw [sig j hj]
    refine ⟨by rw [List.length_set, List.length_set]; exact R.len, R.sub, R.up, R.keep, R.fro, fun j u h => ?_, fun a b q h1 h2 => ?_, fun z hz => ?_, fun q hq => ?_⟩
    · by_cases hj : i = j
      · subst hj
        rw [List.getElem?_set_self hlt] at h
        cases h
        exact hr
      · rw [del j hj] at h
        have sj := R.slot j u h
        cases u with
        | un => trivial
        | dat d =>
          obtain ⟨w, e1, e2⟩ := sj
          exact ⟨w, by rw [sig j hj]; exact e1, e2⟩
        | own xs =>
          obtain ⟨q, ws, e1, e2⟩ := sj
          exact ⟨q, ws, by rw [sig j hj]; exact e1, e2⟩
        | prm xs =>
          obtain ⟨q, ws, e1, e2⟩ := sj
          exact ⟨q, ws, by rw [sig j hj]; exact e1, e2⟩
        | obj xs =>
          obtain ⟨q, ws, e1, e2⟩ := sj
          exact ⟨q, ws, by rw [sig j hj]; exact e1, e2⟩
        | pob xs =>
          obtain ⟨q, ws, e1, e2⟩ := sj
          exact ⟨q, ws, by rw [sig j hj]; exact e1, e2⟩
    · have get : ∀ j, Holds H (δ.set i r) (σ.set i (some v)) j q → (j ≠ i ∧ Holds H δ σ j q) ∨ (j = i ∧ isOwn r = true ∧ Foot H (σ.set i (some v)) i r q) := fun j ⟨u, u1, u2, u3⟩ => by
        by_cases hj : i = j
        · subst hj
          rw [List.getElem?_set_self hlt] at u1
          cases u1
          exact .inr ⟨rfl, u2, u3⟩
        · rw [del j hj] at u1
          exact .inl ⟨Ne.symm hj, ⟨u, u1, u2, (ft j u q hj).mp u3⟩⟩
      rcases get a h1 with ⟨a1, a2⟩ | ⟨a1, a2, a3⟩
      · rcases get b h2 with ⟨b1, b2⟩ | ⟨b1, b2, b3⟩
        · exact R.inj a b q a2 b2
        · exact absurd a2 (hno b2 q b3 a)
      · rcases get b h2 with ⟨b1, b2⟩ | ⟨b1, b2, b3⟩
        · exact absurd b2 (hno a2 q a3 b)
        · rw [a1, b1]
    · obtain ⟨u, e1, e2, e3⟩ := R.prs z hz
      have hj : i ≠ z.1 := fun h => by
        rw [← h, e] at e1
        cases e1
        rw [nprm] at e2
        cases e2
      exact ⟨u, by rw [del _ hj]; exact e1, e2, by rw [sig _ hj]; exact e3⟩
    · obtain ⟨j, fs, p', e6, e7, e8⟩ := R.qrs q hq
      have hj : i ≠ j := fun h => by
        rw [← h, e] at e6
        cases e6
        cases nprm
      exact ⟨j, fs, p', by rw [del _ hj]; exact e6, by rw [sig _ hj]; exact e7, e8⟩
theorem Rl.freshU (R : Rl G H0 H δ σ) (hp : H p = none) : H0 p = none ∧ G.H p = none ∧ ∀ i, ¬ Holds (upd H p o) δ σ i p :=
  have f := R.fresh hp
  ⟨f.1, f.2.1, fun i h => f.2.2 i (R.holdsOf (keep_new hp) h)⟩
theorem Rl.freshI (R : Rl G H0 H δ σ) (hp : H p = none) : H0 p = none ∧ G.H p = none ∧ ∀ {o : HO} (i : Nat), ¬ Holds (upd H p o) δ σ i p :=
  have f := R.fresh hp
  ⟨f.1, f.2.1, fun i h => f.2.2 i (R.holdsOf (keep_new hp) h)⟩
theorem OpdOk.sub {o : Opd} (h : OpdOk G H0 σ o v) (s : Sub H0 H0') : OpdOk G H0' σ o v := by
  cases o with
  | val d => exact Rel.sub s h
  | «at» i => exact h
theorem Rl.rd (R : Rl G H0 H δ σ) {o : Opd} (h : OpdOk G H0 σ o v) (e : rd δ o = some d) : RelT G.K H0 H v d := by
  cases o with
  | val d' =>
    simp only [IP.rd, Option.some.injEq] at e
    subst e
    exact .inl h
  | «at» i =>
    simp only [IP.rd, Option.bind_eq_some_iff] at e
    obtain ⟨s, e1, e2⟩ := e
    have sj := R.slot i s e1
    have h' : σ[i]? = some (some v) := h
    cases s with
    | obj _ => cases e2
    | pob _ => cases e2
    | un => cases e2
    | dat d' =>
      simp only [slotD, Option.some.injEq] at e2
      subst e2
      obtain ⟨w, e3, e4⟩ := sj
      rw [h'] at e3
      cases e3
      exact .inl e4
    | own ds =>
      simp only [slotD, Option.some.injEq] at e2
      subst e2
      obtain ⟨q, ws, e3, e4, e5, _⟩ := sj
      rw [h'] at e3
      cases e3
      exact .inr ⟨q, ws, ds, rfl, rfl, e4, e5⟩
    | prm ds =>
      simp only [slotD, Option.some.injEq] at e2
      subst e2
      obtain ⟨q, ws, e3, _, e4, e5, _⟩ := sj
      rw [h'] at e3
      cases e3
      exact .inr ⟨q, ws, ds, rfl, rfl, e4, e5⟩
end
end IP
end
section
set_option Elab.async false
set_option linter.all false
set_option maxRecDepth 100000
set_option maxHeartbeats 2000000
namespace IP
open PySem L2
/-! ### the judgements -/
def kE (K : PySem.W.Frag) (f : Ev) : TE := fun σ H Q => ∃ G H0 δ r δ', G.K = K ∧ Rl G H0 H δ σ ∧ f δ = some (r, δ') ∧ ∀ v H0' H', Rl G H0' H' δ' σ → Sub H0 H0' → ResOk G H0' H' δ' σ r v → Q v H'
def kO (K : PySem.W.Frag) (f : Eo) : TE := fun σ H Q => ∃ G H0 δ o δ', G.K = K ∧ Rl G H0 H δ σ ∧ f δ = some (o, δ') ∧ ∀ v H0' H', Rl G H0' H' δ' σ → Sub H0 H0' → OpdOk G H0' σ o v → Q v H'
def kT (K : PySem.W.Frag) (f : Et) : TT := fun σ H Q => ∃ G H0 δ b δ', G.K = K ∧ Rl G H0 H δ σ ∧ f δ = some (b, δ') ∧ ∀ H0' H', Rl G H0' H' δ' σ → Sub H0 H0' → Q b H'
inductive OpdAll (G : Gx) (H0 : Hp) (σ : L2.St) : List Opd → List V → Prop
  | nil : OpdAll G H0 σ [] []
  | cons {o : Opd} {os : List Opd} {v : V} {vs : List V} : OpdOk G H0 σ o v → OpdAll G H0 σ os vs → OpdAll G H0 σ (o :: os) (v :: vs)
def kA (K : PySem.W.Frag) (f : Ea) : TA := fun σ H Q => ∃ G H0 δ os δ', G.K = K ∧ Rl G H0 H δ σ ∧ f δ = some (os, δ') ∧ ∀ vs H0' H', Rl G H0' H' δ' σ → Sub H0 H0' → OpdAll G H0' σ os vs → Q vs H'
def kP (K : PySem.W.Frag) (f : Env → Option (Option Int × Env)) : TO := fun σ H Q => ∃ G H0 δ o δ', G.K = K ∧ Rl G H0 H δ σ ∧ f δ = some (o, δ') ∧ ∀ H0' H', Rl G H0' H' δ' σ → Sub H0 H0' → Q o H'
def kS (K : PySem.W.Frag) (f : Es) : TS := fun D σ H => ∃ G H0 δ o δ', G.K = K ∧ Rl G H0 H δ σ ∧ f δ = some (o, δ') ∧ ∀ σ' H0' H', Rl G H0' H' δ' σ' → Sub H0 H0' → match o with
  | .nx => D.nx σ' H'
  | .bk => D.bk σ' H'
  | .ct => D.ct σ' H'
  | .rt r => ∀ v, ResOk G H0' H' δ' σ' r v → D.rt v H'
  | .ro i => ∀ v, σ'[i]? = some (some v) → D.rt v H'
abbrev XV (X : Cx) (e : Expr) (f : Ev) : Prop := PE X e (kE X.K f)
abbrev XO (X : Cx) (e : Expr) (f : Eo) : Prop := PE X e (kO X.K f)
abbrev XT (X : Cx) (e : Expr) (f : Et) : Prop := PT X e (kT X.K f)
abbrev XA (X : Cx) (es : List Expr) (f : Ea) : Prop := PA X es (kA X.K f)
abbrev XP (X : Cx) (o : Option Expr) (f : Env → Option (Option Int × Env)) : Prop := L2.PO X o (kP X.K f)
abbrev XS (X : Cx) (st : Stmt) (f : Es) : Prop := PS X st (kS X.K f)
abbrev XB (X : Cx) (st : List Stmt) (f : Es) : Prop := PSs X st (kS X.K f)

section
variable {X : Cx} {K : PySem.W.Frag}
theorem _root_.L2.PE.weak {e : Expr} {t t' : TE} (h : PE X e t) (w : ∀ σ H Q, t' σ H Q → t σ H Q) : PE X e t' := ⟨fun pins s σ H Q I q => h.run pins s σ H Q I (w σ H Q q)⟩
theorem _root_.L2.PT.weak {e : Expr} {t t' : TT} (h : PT X e t) (w : ∀ σ H Q, t' σ H Q → t σ H Q) : PT X e t' := ⟨fun pins s σ H Q I q => h.run pins s σ H Q I (w σ H Q q)⟩
theorem _root_.L2.PA.weak {e : List Expr} {t t' : TA} (h : PA X e t) (w : ∀ σ H Q, t' σ H Q → t σ H Q) : PA X e t' := ⟨fun pos pins s σ H Q I q => h.run pos pins s σ H Q I (w σ H Q q)⟩
theorem _root_.L2.PS.weak {e : Stmt} {t t' : TS} (h : PS X e t) (w : ∀ D σ H, t' D σ H → t D σ H) : PS X e t' := ⟨fun pins s σ H D I q => h.run pins s σ H D I (w D σ H q)⟩
theorem _root_.L2.PSs.weak {e : List Stmt} {t t' : TS} (h : PSs X e t) (w : ∀ D σ H, t' D σ H → t D σ H) : PSs X e t' := ⟨fun pins s σ H D I q => h.run pins s σ H D I (w D σ H q)⟩
theorem _root_.L2.PO.weak {e : Option Expr} {t t' : TO} (h : L2.PO X e t) (w : ∀ σ H Q, t' σ H Q → t σ H Q) : L2.PO X e t' := ⟨fun pins s σ H Q I q => h.run pins s σ H Q I (w σ H Q q)⟩
theorem OpdAll.sub {G : Gx} {A B : Hp} {σ : L2.St} {os : List Opd} {vs : List V} (h : OpdAll G A σ os vs) (s : Sub A B) : OpdAll G B σ os vs := by
  induction h with
  | nil => exact .nil
  | cons q _ ih => exact .cons (q.sub s) ih

/-! ### names, constants -/
theorem x_int {i j pos} : XV X (.Constant (.int i) j pos) (vC (.int i)) := pe_int.weak fun σ H Q ⟨G, H0, δ, r, δ', _, R, e, q⟩ => by
  cases e
  exact q _ _ _ R (Sub.refl _) (.int i)
theorem x_bl {i j pos} : XV X (.Constant (.bool i) j pos) (vC (.bool i)) := pe_bl.weak fun σ H Q ⟨G, H0, δ, r, δ', _, R, e, q⟩ => by
  cases e
  exact q _ _ _ R (Sub.refl _) (.bl i)
theorem x_non {j pos} : XV X (.Constant .none j pos) (vC .none) := pe_non.weak fun σ H Q ⟨G, H0, δ, r, δ', _, R, e, q⟩ => by
  cases e
  exact q _ _ _ R (Sub.refl _) .non
theorem x_str {i j pos} : XV X (.Constant (.str i) j pos) (vC (.str i)) := pe_str.weak fun σ H Q ⟨G, H0, δ, r, δ', _, R, e, q⟩ => by
  cases e
  exact q _ _ _ R (Sub.refl _) (.str i)
/-- a constant of the module -/
theorem x_glob {x : Str} {v : V} {u : Value} {d : D} {pos : Pos} (hg : Gl X x) (hm : X.mg x = some u) (r : RelV v u) (hd : ∀ H, Rel X.K H v d) (hdb : (x == ("__debug__" : Str)) = false := by decide) : XV X (.Name x pos) (vC d) := (pe_glob hg hm r hdb).weak fun σ H Q ⟨G, H0, δ, r, δ', eK, R, e, q⟩ => by
  cases e
  exact q _ _ _ R (Sub.refl _) (by show Rel G.K H0 v d; rw [eK]; exact hd H0)
theorem x_var {i : Nat} {x : Str} {pos : Pos} (hN : X.N[i]? = some x) (hv : Vis X.env.scope x) (hd : (x == ("__debug__" : Str)) = false := by decide) (hcd : (x == ("__classdict__" : Str)) = false := by decide) : XV X (.Name x pos) (vVar i) :=
  (pe_var hN hv hd hcd).weak fun σ H Q ⟨G, H0, δ, r, δ', _, R, e, q⟩ => by
    unfold vVar at e
    cases es : δ[i]? with
    | none =>
      rw [es] at e
      cases e
    | some s =>
      rw [es] at e
      have sj := R.slot i s es
      cases s with
      | dat d =>
        cases e
        obtain ⟨v, h1, h2⟩ := sj
        exact ⟨v, h1, q v _ _ R (Sub.refl _) h2⟩
      | own ds =>
        cases e
        obtain ⟨p, vs, h1, h2, h3, h4, h5⟩ := sj
        obtain ⟨H0', R', s'⟩ := R.freeze i
        refine ⟨.ref p, h1, q _ _ _ R' s' ?_⟩
        have hlt : i < δ.length := (List.getElem?_eq_some_iff.mp es).1
        have e2 : (IP.freeze δ i)[i]? = some (.dat (.list ds)) := by
          unfold IP.freeze
          rw [es]
          exact List.getElem?_set_self hlt
        obtain ⟨w, e3, e4⟩ := R'.slot i _ e2
        rw [h1] at e3
        cases e3
        exact e4
      | _ => cases e
theorem o_var {i : Nat} {x : Str} {pos : Pos} (hN : X.N[i]? = some x) (hv : Vis X.env.scope x) (hd : (x == ("__debug__" : Str)) = false := by decide) (hcd : (x == ("__classdict__" : Str)) = false := by decide) : XO X (.Name x pos) (oVar i) :=
  (pe_var hN hv hd hcd).weak fun σ H Q ⟨G, H0, δ, r, δ', _, R, e, q⟩ => by
    unfold oVar at e
    cases es : δ[i]? with
    | none =>
      rw [es] at e
      cases e
    | some s =>
      rw [es] at e
      have sj := R.slot i s es
      cases s with
      | dat d =>
        cases e
        obtain ⟨v, h1, h2⟩ := sj
        exact ⟨v, h1, q v _ _ R (Sub.refl _) h2⟩
      | own ds =>
        cases e
        obtain ⟨p, vs, h1, _⟩ := sj
        exact ⟨.ref p, h1, q _ _ _ R (Sub.refl _) h1⟩
      | prm ds =>
        cases e
        obtain ⟨p, vs, h1, _⟩ := sj
        exact ⟨.ref p, h1, q _ _ _ R (Sub.refl _) h1⟩
      | un => cases e
      | obj _ => cases e
      | pob _ => cases e
theorem o_v {e : Expr} {f : Ev} (h : XV X e f) : XO X e (oV f) := h.weak fun σ H Q ⟨G, H0, δ, o, δ', eK, R, e, q⟩ => by
  unfold oV at e
  simp only [Option.map_eq_some_iff] at e
  obtain ⟨⟨r, δ1⟩, e1, e2⟩ := e
  cases e2
  refine ⟨G, H0, δ, r, δ1, eK, R, e1, fun v H0' H' R' s ok => ?_⟩
  obtain ⟨H1, R1, s1, k1⟩ := R'.toD ok
  exact q v H1 H' R1 (s.trans s1) k1

/-! ### operators -/
/-- what is asked of an operation on two values -/
def OpS (K : PySem.W.Frag) (r : R2) (op : D → D → Option Res) : Prop :=
  ∀ (G : Gx) (H0 H : Hp) (δ : Env) (σ : L2.St) (x y : V) (dx dy : D) (res : Res), G.K = K → Rl G H0 H δ σ → RelT G.K H0 H x dx → RelT G.K H0 H y dy → op dx dy = some res →
    ∀ Q : VK, (∀ v H0' H', Rl G H0' H' δ σ → Sub H0 H0' → ResOk G H0' H' δ σ res v → Q v H') → r x y H Q
def UnS (K : PySem.W.Frag) (r : V → Hp → VK → Prop) (op : D → Option Res) : Prop :=
  ∀ (G : Gx) (H0 H : Hp) (δ : Env) (σ : L2.St) (x : V) (dx : D) (res : Res), G.K = K → Rl G H0 H δ σ → RelT G.K H0 H x dx → op dx = some res →
    ∀ Q : VK, (∀ v H0' H', Rl G H0' H' δ σ → Sub H0 H0' → ResOk G H0' H' δ σ res v → Q v H') → r x H Q
/-- the reading of two operands and an operation -/
theorem bin_read {r : R2} {op : D → D → Option Res} {f g : Eo} (hs : OpS K r op) {σ : L2.St} {H : Hp} {Q : VK} (h : kE K (fBin op f g) σ H Q) : tOp r (kO K f) (kO K g) σ H Q := by
  obtain ⟨G, H0, δ, res, δ', eK, R, e, q⟩ := h
  simp only [fBin, Option.bind_eq_some_iff, Option.map_eq_some_iff] at e
  obtain ⟨⟨o1, δ1⟩, e1, ⟨o2, δ2⟩, e2, dx, e3, dy, e4, r', e5, e6⟩ := e
  cases e6
  refine ⟨G, H0, δ, o1, δ1, eK, R, e1, fun v H0' H' R1 s1 k1 => ?_⟩
  refine ⟨G, H0', δ1, o2, δ2, eK, R1, e2, fun w H0'' H'' R2 s2 k2 => ?_⟩
  exact hs G H0'' H'' δ2 σ v w dx dy res eK R2 (R2.rd (k1.sub s2) e3) (R2.rd k2 e4) e5 Q fun z A B R3 s3 k3 => q z A B R3 ((s1.trans s2).trans s3) k3
theorem un_read {r : V → Hp → VK → Prop} {op : D → Option Res} {f : Eo} (hs : UnS K r op) {σ : L2.St} {H : Hp} {Q : VK} (h : kE K (fUn op f) σ H Q) : tUn r (kO K f) σ H Q := by
  obtain ⟨G, H0, δ, res, δ', eK, R, e, q⟩ := h
  simp only [fUn, Option.bind_eq_some_iff, Option.map_eq_some_iff] at e
  obtain ⟨⟨o1, δ1⟩, e1, dx, e3, r', e5, e6⟩ := e
  cases e6
  refine ⟨G, H0, δ, o1, δ1, eK, R, e1, fun v H0' H' R1 s1 k1 => ?_⟩
  exact hs G H0' H' δ1 σ v dx res eK R1 (R1.rd k1 e3) e5 Q fun z A B R3 s3 k3 => q z A B R3 (s1.trans s3) k3
variable {a b c : Expr} {f g h : Eo} {pos : Pos}
theorem x_bin {o : Operator} {r : R2} {op : D → D → Option Res} (ho : OpR X (binaryOp o) r) (hs : OpS X.K r op) (ha : XO X a f) (hb : XO X b g) : XV X (.BinOp a o b pos) (fBin op f g) :=
  (pe_op ho ha hb).weak fun _ _ _ h => bin_read hs h
theorem x_cmp {o : CmpOp} {r : R2} {op : D → D → Option Res} (ho : OpR X (compareOp o) r) (hs : OpS X.K r op) (ha : XO X a f) (hb : XO X b g) (hm : behindInMarks o b = false) : XV X (.Compare a [o] [b] pos) (fBin op f g) :=
  (pe_cmpR ho ha hb hm).weak fun _ _ _ h => bin_read hs h
theorem x_ix {r : R2} {op : D → D → Option Res} (hr : IxR X r) (hs : OpS X.K r op) (ha : XO X a f) (hb : XO X b g) (hp : PlainIx b) : XV X (.Subscript a b pos) (fBin op f g) :=
  (pe_ix hr ha hb hp).weak fun _ _ _ h => bin_read hs h
theorem x_un {o : UnaryOp} {r : V → Hp → VK → Prop} {op : D → Option Res} (ho : UnR X (unaryOp o) r) (hs : UnS X.K r op) (ha : XO X a f) : XV X (.UnaryOp o a pos) (fUn op f) :=
  (pe_un ho ha).weak fun _ _ _ h => un_read hs h
/-- a comparison as a test -/
theorem x_cmpT {o : CmpOp} {r : R2} {op : D → D → Option Res} (ho : OpR X (compareOp o) r) (hs : OpS X.K r op) (ha : XO X a f) (hb : XO X b g) (hm : behindInMarks o b = false) : XT X (.Compare a [o] [b] pos) (tB (fBin op f g)) :=
  (pt_cmpR ho ha hb hm).weak fun σ H Q ⟨G, H0, δ, res, δ', eK, R, e, q⟩ => by
    simp only [tB, Option.bind_eq_some_iff] at e
    obtain ⟨⟨r1, δ1⟩, e1, e2⟩ := e
    cases r1 with
    | new ds => cases e2
    | dat d =>
      cases d with
      | bool k =>
        cases e2
        refine bin_read hs ⟨G, H0, δ, _, _, eK, R, e1, fun v H0' H' R' s k1 => ?_⟩
        cases k1
        exact ⟨_, rfl, q _ _ R' s⟩
      | _ => cases e2
theorem x_chain {o1 o2 : CmpOp} {r1 r2 : R2} {p1 p2 : D → D → Option Res} (h1 : OpR X (compareOp o1) r1) (h2 : OpR X (compareOp o2) r2) (s1 : OpS X.K r1 p1) (s2 : OpS X.K r2 p2) (ha : XO X a f) (hb : XO X b g) (hc : XO X c h)
    (hm : lastMarks [o1, o2] [b, c] = false := by with_unfolding_all rfl) : XV X (.Compare a [o1, o2] [b, c] pos) (vChain p1 p2 f g h) :=
  (pe_chain h1 h2 ha hb hc hm).weak fun σ H Q ⟨G, H0, δ, res, δ', eK, R, e, q⟩ => by
    simp only [vChain, Option.bind_eq_some_iff] at e
    obtain ⟨⟨o1, δ1⟩, e1, ⟨o2, δ2⟩, e2, dx, e3, dy, e4, r', e5, e6⟩ := e
    refine ⟨G, H0, δ, o1, δ1, eK, R, e1, fun v H0' H' R1 s1' k1 => ?_⟩
    refine ⟨G, H0', δ1, o2, δ2, eK, R1, e2, fun w H0'' H'' R2 s2' k2 => ?_⟩
    refine s1 G H0'' H'' δ2 σ v w dx dy r' eK R2 (R2.rd (k1.sub s2') e3) (R2.rd k2 e4) e5 _ fun z A B R3 s3 k3 => ?_
    cases r' with
    | new _ => cases e6
    | dat d =>
      cases d with
      | bool t =>
        cases k3
        cases t with
        | false =>
          cases e6
          exact ⟨false, rfl, iteF (q _ A B R3 ((s1'.trans s2').trans s3) (.bl false))⟩
        | true =>
          simp only [Option.bind_eq_some_iff, Option.map_eq_some_iff] at e6
          obtain ⟨⟨o3, δ3⟩, e7, dy', e8, dz, e9, r'', e10, e11⟩ := e6
          cases e11
          refine ⟨true, rfl, iteT ?_⟩
          refine ⟨G, A, δ2, o3, δ3, eK, R3, e7, fun u A' B' R4 s4 k4 => ?_⟩
          exact s2 G A' B' δ3 σ w u dy' dz _ eK R4 (R4.rd ((k2.sub s3).sub s4) e8) (R4.rd k4 e9) e10 Q fun z C C' R5 s5 k5 => q z C C' R5 ((((s1'.trans s2').trans s3).trans s4).trans s5) k5
      | _ => cases e6

/-! ### tests -/
theorem truth_ok {G : Gx} {H0 H : Hp} {v : V} {d : D} {t : Bool} (h : RelT G.K H0 H v d) (s : Sub H0 H) (e : truth d = some t) : TruV G.K v H t := by
  rcases h with h | ⟨p, xs, ds, rfl, rfl, h1, h2⟩
  · cases h with
    | non =>
      cases e
      rfl
    | bl b =>
      cases e
      rfl
    | int i =>
      cases e
      rfl
    | str x => cases e
    | lst h1 h2 =>
      rename_i p xs ds
      simp only [truth, Option.some.injEq] at e
      subst e
      refine .inl ⟨xs, SqL.of (s _ _ h1), ?_⟩
      cases h2 <;> rfl
    | tup h1 h2 =>
      rename_i p xs ds
      simp only [truth, Option.some.injEq] at e
      subst e
      refine .inr (.inl ⟨xs, SqT.sub s h1, ?_⟩)
      cases h2 <;> rfl
    | scr _ => cases e
  · simp only [truth, Option.some.injEq] at e
    subst e
    refine .inl ⟨xs, SqL.of h1, ?_⟩
    cases h2 <;> rfl
theorem x_truth (ha : XO X a f) (he : ∀ whole, isTrue a X.env whole = (do let v ← whole; standAt a.pos; holding [v] (truthy v))) : XT X a (tV f) :=
  (pt_truth ha he).weak fun σ H Q ⟨G, H0, δ, res, δ', eK, R, e, q⟩ => by
    simp only [tV, Option.bind_eq_some_iff, Option.map_eq_some_iff] at e
    obtain ⟨⟨o1, δ1⟩, e1, d, e2, t, e3, e4⟩ := e
    cases e4
    refine ⟨G, H0, δ, o1, δ1, eK, R, e1, fun v H0' H' R1 s1 k1 => ?_⟩
    refine ⟨_, ?_, q H0' H' R1 s1⟩
    have := truth_ok (G := G) (R1.rd k1 e2) R1.sub e3
    rw [eK] at this
    exact this
theorem x_and {A B : Et} {rest : List Expr} (ha : XT X a A) (hb : PW X (.BoolOp .And (b :: rest) pos) (kT X.K B)) : PW X (.BoolOp .And (a :: b :: rest) pos) (kT X.K (tAnd A B)) := by
  refine ⟨fun wh pins s σ H Q I h => (pw_and ha hb).run wh pins s σ H Q I ?_⟩
  obtain ⟨G, H0, δ, res, δ', eK, R, e, q⟩ := h
  simp only [tAnd, Option.bind_eq_some_iff] at e
  obtain ⟨⟨t, δ1⟩, e1, e2⟩ := e
  refine ⟨G, H0, δ, t, δ1, eK, R, e1, fun H0' H' R1 s1 => ?_⟩
  cases t with
  | true => exact iteT ⟨G, H0', δ1, res, δ', eK, R1, e2, fun A' B' R2 s2 => q _ _ R2 (s1.trans s2)⟩
  | false =>
    cases e2
    exact iteF (q _ _ R1 s1)
theorem x_or {A B : Et} {rest : List Expr} (ha : XT X a A) (hb : PW X (.BoolOp .Or (b :: rest) pos) (kT X.K B)) : PW X (.BoolOp .Or (a :: b :: rest) pos) (kT X.K (tOr A B)) := by
  refine ⟨fun wh pins s σ H Q I h => (pw_or ha hb).run wh pins s σ H Q I ?_⟩
  obtain ⟨G, H0, δ, res, δ', eK, R, e, q⟩ := h
  simp only [tOr, Option.bind_eq_some_iff] at e
  obtain ⟨⟨t, δ1⟩, e1, e2⟩ := e
  refine ⟨G, H0, δ, t, δ1, eK, R, e1, fun H0' H' R1 s1 => ?_⟩
  cases t with
  | false => exact iteF ⟨G, H0', δ1, res, δ', eK, R1, e2, fun A' B' R2 s2 => q _ _ R2 (s1.trans s2)⟩
  | true =>
    cases e2
    exact iteT (q _ _ R1 s1)
theorem x_not {A : Et} (ha : XT X a A) : XT X (.UnaryOp .Not a pos) (tNot A) := (pt_not ha).weak fun σ H Q ⟨G, H0, δ, res, δ', eK, R, e, q⟩ => by
  simp only [tNot, Option.map_eq_some_iff] at e
  obtain ⟨⟨t, δ1⟩, e1, e2⟩ := e
  cases e2
  exact ⟨G, H0, δ, t, δ1, eK, R, e1, fun H0' H' R1 s1 => q _ _ R1 s1⟩
/-- .. as values of bools -/
theorem x_andV {A B : Ev} {rest : List Expr} (ha : XV X a A) (hb : XV X (.BoolOp .And (b :: rest) pos) B) : XV X (.BoolOp .And (a :: b :: rest) pos) (vAnd A B) := (pe_and ha hb).weak fun σ H Q ⟨G, H0, δ, res, δ', eK, R, e, q⟩ => by
  simp only [vAnd, Option.bind_eq_some_iff] at e
  obtain ⟨⟨t, δ1⟩, e1, e2⟩ := e
  refine ⟨G, H0, δ, t, δ1, eK, R, e1, fun v H0' H' R1 s1 k1 => ?_⟩
  cases t with
  | new _ => cases e2
  | dat d =>
    cases d with
    | bool t =>
      cases k1
      cases t with
      | true => exact ⟨true, rfl, iteT ⟨G, H0', δ1, res, δ', eK, R1, e2, fun v A' B' R2 s2 k2 => q _ _ _ R2 (s1.trans s2) k2⟩⟩
      | false =>
        cases e2
        exact ⟨false, rfl, iteF (q _ _ _ R1 s1 (.bl false))⟩
    | _ => cases e2
theorem x_orV {A B : Ev} {rest : List Expr} (ha : XV X a A) (hb : XV X (.BoolOp .Or (b :: rest) pos) B) : XV X (.BoolOp .Or (a :: b :: rest) pos) (vOr A B) := (pe_or ha hb).weak fun σ H Q ⟨G, H0, δ, res, δ', eK, R, e, q⟩ => by
  simp only [vOr, Option.bind_eq_some_iff] at e
  obtain ⟨⟨t, δ1⟩, e1, e2⟩ := e
  refine ⟨G, H0, δ, t, δ1, eK, R, e1, fun v H0' H' R1 s1 k1 => ?_⟩
  cases t with
  | new _ => cases e2
  | dat d =>
    cases d with
    | bool t =>
      cases k1
      cases t with
      | false => exact ⟨false, rfl, iteF ⟨G, H0', δ1, res, δ', eK, R1, e2, fun v A' B' R2 s2 k2 => q _ _ _ R2 (s1.trans s2) k2⟩⟩
      | true =>
        cases e2
        exact ⟨true, rfl, iteT (q _ _ _ R1 s1 (.bl true))⟩
    | _ => cases e2
theorem x_ite {T : Et} {A B : Ev} (ht : XT X c T) (ha : XV X a A) (hb : XV X b B) : XV X (.IfExp c a b pos) (vIte T A B) := (pe_ifExp ht ha hb).weak fun σ H Q ⟨G, H0, δ, res, δ', eK, R, e, q⟩ => by
  simp only [vIte, Option.bind_eq_some_iff] at e
  obtain ⟨⟨t, δ1⟩, e1, e2⟩ := e
  refine ⟨G, H0, δ, t, δ1, eK, R, e1, fun H0' H' R1 s1 => ?_⟩
  cases t with
  | true => exact iteT ⟨G, H0', δ1, res, δ', eK, R1, e2, fun v A' B' R2 s2 k2 => q _ _ _ R2 (s1.trans s2) k2⟩
  | false => exact iteF ⟨G, H0', δ1, res, δ', eK, R1, e2, fun v A' B' R2 s2 k2 => q _ _ _ R2 (s1.trans s2) k2⟩

/-! ### displays -/
theorem xa_nil : XA X [] aNil := pa_nil.weak fun σ H Q ⟨G, H0, δ, res, δ', eK, R, e, q⟩ => by
  cases e
  exact q [] _ _ R (Sub.refl _) .nil
theorem xa_cons {es : List Expr} {A : Ea} (ha : XO X a f) (hb : XA X es A) (hs : starEach (a :: es) X.env = (false, eval a X.env) :: starEach es X.env := by rfl) : XA X (a :: es) (aCons f A) := (pa_cons ha hb hs).weak fun σ H Q ⟨G, H0, δ, res, δ', eK, R, e, q⟩ => by
  simp only [aCons, Option.bind_eq_some_iff, Option.map_eq_some_iff] at e
  obtain ⟨⟨o1, δ1⟩, e1, ⟨os, δ2⟩, e2, e3⟩ := e
  cases e3
  refine ⟨G, H0, δ, o1, δ1, eK, R, e1, fun v H0' H' R1 s1 k1 => ?_⟩
  exact ⟨G, H0', δ1, os, δ2, eK, R1, e2, fun vs A' B' R2 s2 k2 => q _ _ _ R2 (s1.trans s2) (.cons (k1.sub s2) k2)⟩
theorem OpdAll.vals {G : Gx} {H0 : Hp} {σ : L2.St} : ∀ {os : List Opd} {vs : List V} {ds : List D}, OpdAll G H0 σ os vs → vals os = some ds → RelAll G.K H0 vs ds
  | _, _, _, .nil, e => by
    cases e
    exact .nil
  | _, _, _, .cons (o := o) h t, e => by
    cases o with
    | val d =>
      simp only [IP.vals, Option.map_eq_some_iff] at e
      obtain ⟨es, e1, rfl⟩ := e
      exact .cons h (OpdAll.vals t e1)
    | «at» i => cases e
theorem line_le {n : Nat} (h : n ≤ line) : n ≤ sizeLine := Nat.le_trans h (by rw [sizeLine_eq]; decide)
theorem x_tup {es : List Expr} {j : Nat} {A : Ea} (ha : XA X es A) : XV X (.Tuple es j pos) (vTup A) := (pe_tup ha).weak fun σ H Q ⟨G, H0, δ, res, δ', eK, R, e, q⟩ => by
  simp only [vTup, Option.bind_eq_some_iff] at e
  obtain ⟨⟨os, δ1⟩, e1, ds, e2, e3⟩ := e
  split at e3
  · rename_i hl
    cases e3
    refine ⟨G, H0, δ, os, δ1, eK, R, e1, fun vs H0' H' R1 s1 k1 => ?_⟩
    have ra := k1.vals e2
    refine ⟨line_le (by rw [ra.length]; exact hl), fun p hp => ?_⟩
    obtain ⟨R2, s2⟩ := R1.laid0 (o := .tup vs) hp
    exact q _ _ _ R2 (s1.trans s2) (.tup (SqT.of upd_same) (ra.sub s2))
  · cases e3
theorem x_lst {es : List Expr} {A : Ea} (ha : XA X es A) : XV X (.List es pos) (vLst A) := (pe_lst ha).weak fun σ H Q ⟨G, H0, δ, res, δ', eK, R, e, q⟩ => by
  simp only [vLst, Option.bind_eq_some_iff] at e
  obtain ⟨⟨os, δ1⟩, e1, ds, e2, e3⟩ := e
  split at e3
  · rename_i hl
    cases e3
    refine ⟨G, H0, δ, os, δ1, eK, R, e1, fun vs H0' H' R1 s1 k1 => ?_⟩
    have ra := k1.vals e2
    refine ⟨line_le (by rw [ra.length]; exact hl), fun p hp => ?_⟩
    have f := R1.freshU (o := .lst vs) hp
    exact q _ _ _ (R1.laid hp) s1 ⟨p, vs, rfl, upd_same, ra, f.1, f.2.1, f.2.2⟩
  · cases e3

/-! ### slices -/
theorem xp_none : XP X none pNo := po_none.weak fun σ H Q ⟨G, H0, δ, res, δ', eK, R, e, q⟩ => by
  cases e
  exact q _ _ R (Sub.refl _)
theorem xp_some (ha : XO X a f) : XP X (some a) (pSo f) := (po_some ha).weak fun σ H Q ⟨G, H0, δ, res, δ', eK, R, e, q⟩ => by
  simp only [pSo, Option.bind_eq_some_iff] at e
  obtain ⟨⟨o, δ1⟩, e1, e2⟩ := e
  refine ⟨G, H0, δ, o, δ1, eK, R, e1, fun v H0' H' R1 s1 k1 => ?_⟩
  cases o with
  | «at» i => cases e2
  | val d =>
    cases d with
    | int i =>
      cases e2
      cases k1
      exact ⟨i, rfl, q _ _ R1 s1⟩
    | _ => cases e2
theorem clampIx_eq (n d : Nat) (o : Option Int) : clampIx n d o = HT.sIx n d o := by cases o <;> rfl
theorem cut_rel {K : PySem.W.Frag} {H0 : Hp} {vs : List V} {ds : List D} (r : RelAll K H0 vs ds) (lo hi : Option Int) : RelAll K H0 (cutV vs lo hi) (cutD ds lo hi) := by
  unfold cutV cutD
  rw [clampIx_eq, clampIx_eq, r.length]
  exact (r.drop _).take _
theorem x_sl {lo hi : Option Expr} {L U : Env → Option (Option Int × Env)} {p2 : Pos} (ha : XO X a f) (hl : XP X lo L) (hu : XP X hi U) : XV X (.Subscript a (.Slice lo hi none p2) pos) (fSl f L U) :=
  (pe_slice (sl_list.or sl_tupA) ha hl hu).weak fun σ H Q ⟨G, H0, δ, res, δ', eK, R, e, q⟩ => by
    simp only [fSl, Option.bind_eq_some_iff] at e
    obtain ⟨⟨o, δ1⟩, e1, ⟨l, δ2⟩, e2, ⟨u, δ3⟩, e3, d, e4, e5⟩ := e
    refine ⟨G, H0, δ, o, δ1, eK, R, e1, fun v H0' H' R1 s1 k1 => ?_⟩
    refine ⟨G, H0', δ1, l, δ2, eK, R1, e2, fun A A' R2 s2 => ?_⟩
    refine ⟨G, A, δ2, u, δ3, eK, R2, e3, fun B B' R3 s3 => ?_⟩
    have rr := R3.rd ((k1.sub s2).sub s3) e4
    have list : ∀ p xs ds, v = .ref p → B' p = some (.lst xs) → RelAll G.K B xs ds → d = .list ds → rSlL X.K v l u B' Q ∨ rSlA X.K v l u B' Q := by
      intro p xs ds ev h1 h2 ed
      subst ed ev
      cases e5
      refine .inl ⟨p, xs, rfl, SqL.of h1, fun z hz => ?_⟩
      have fr := R3.freshU (o := .lst (cutV xs l u)) hz
      exact q _ _ _ (R3.laid hz) ((s1.trans s2).trans s3) ⟨z, _, rfl, upd_same, cut_rel h2 l u, fr.1, fr.2.1, fr.2.2⟩
    rcases rr with rr | ⟨p, xs, ds, ed, ev, h1, h2⟩
    · cases rr with
      | lst h1 h2 => exact list _ _ _ rfl (R3.sub _ _ h1) h2 rfl
      | tup h1 h2 =>
        rename_i p xs ds
        cases e5
        refine .inr ⟨p, xs, rfl, by rw [← eK]; exact SqT.sub R3.sub h1, fun hw => ?_, fun _ z hz => ?_⟩
        · refine q _ _ _ R3 ((s1.trans s2).trans s3) ?_
          have ec : cutD ds l u = ds := by
            unfold cutD
            rw [clampIx_eq, clampIx_eq, ← h2.length, hw.1, hw.2]
            simp [h2.length]
          show Rel G.K B (.ref p) (.tuple (cutD ds l u))
          rw [ec]
          exact .tup h1 h2
        · obtain ⟨R4, s4⟩ := R3.laid0 (o := .tup (cutV xs l u)) hz
          exact q _ _ _ R4 (((s1.trans s2).trans s3).trans s4) (.tup (SqT.of upd_same) ((cut_rel h2 l u).sub s4))
      | _ => cases e5
    · exact list _ _ _ ev h1 h2 ed

/-! ### builtins -/
inductive RelTAll (K : PySem.W.Frag) (H0 H : Hp) : List V → List D → Prop
  | nil : RelTAll K H0 H [] []
  | cons {v : V} {vs : List V} {d : D} {ds : List D} : RelT K H0 H v d → RelTAll K H0 H vs ds → RelTAll K H0 H (v :: vs) (d :: ds)
theorem Rl.rdAll {G : Gx} {H0 H : Hp} {δ : Env} {σ : L2.St} (R : Rl G H0 H δ σ) : ∀ {os : List Opd} {vs : List V} {ds : List D}, OpdAll G H0 σ os vs → rdAll δ os = some ds → RelTAll G.K H0 H vs ds
  | _, _, _, .nil, e => by
    cases e
    exact .nil
  | _, _, _, .cons h t, e => by
    simp only [IP.rdAll, Option.bind_eq_some_iff, Option.map_eq_some_iff] at e
    obtain ⟨d, e1, es, e2, rfl⟩ := e
    exact .cons (R.rd h e1) (Rl.rdAll R t e2)
def BiS (K : PySem.W.Frag) (r : List V → Hp → VK → Prop) (b : List D → Option Res) : Prop :=
  ∀ (G : Gx) (H0 H : Hp) (δ : Env) (σ : L2.St) (vs : List V) (ds : List D) (res : Res), G.K = K → Rl G H0 H δ σ → RelTAll G.K H0 H vs ds → b ds = some res →
    ∀ Q : VK, (∀ v H0' H', Rl G H0' H' δ σ → Sub H0 H0' → ResOk G H0' H' δ σ res v → Q v H') → r vs H Q
theorem bi_read {r : List V → Hp → VK → Prop} {b : List D → Option Res} {A : Ea} (hs : BiS K r b) {σ : L2.St} {H : Hp} {Q : VK} (h : kE K (vBi b A) σ H Q) : tCB r (kA K A) σ H Q := by
  obtain ⟨G, H0, δ, res, δ', eK, R, e, q⟩ := h
  simp only [vBi, Option.bind_eq_some_iff, Option.map_eq_some_iff] at e
  obtain ⟨⟨os, δ1⟩, e1, ds, e2, r', e3, e4⟩ := e
  cases e4
  refine ⟨G, H0, δ, os, δ1, eK, R, e1, fun vs H0' H' R1 s1 k1 => ?_⟩
  exact hs G H0' H' δ1 σ vs ds _ eK R1 (R1.rdAll k1 e2) e3 Q fun z C D R3 s3 k3 => q z C D R3 (s1.trans s3) k3
theorem x_biB {id : String} {r : List V → Hp → VK → Prop} {bb : List D → Option Res} {A : Ea} {x : Str} {p : Pos} {es : List Expr} (hc : CallR X (.builtin id) r) (hs : BiS X.K r bb) (hg : Gl X x) (hm : X.mg x = none) (hv : bootBuiltins x = some (.builtin id)) (ha : XA X (a :: es) A)
    (hn : x ≠ "__name__" := by decide) (hdb : (x == ("__debug__" : Str)) = false := by decide) (h1 : starEach (a :: es) X.env = (false, eval a X.env) :: starEach es X.env := by rfl) (h2 : (backTo pos (starEach es X.env)).any (·.1) = false := by rfl) : XV X (.Call (.Name x p) (a :: es) [] pos) (vBi bb A) :=
  (pe_callB hc hg hm hv ha hn hdb h1 h2).weak fun _ _ _ h => bi_read hs h
theorem x_biT {id : String} {r : List V → Hp → VK → Prop} {bb : List D → Option Res} {A : Ea} {x : Str} {p : Pos} {es : List Expr} (hc : CallR X (.type id) r) (hs : BiS X.K r bb) (hg : Gl X x) (hm : X.mg x = none) (hv : bootBuiltins x = some (.type id)) (ha : XA X (a :: es) A)
    (hn : x ≠ "__name__" := by decide) (hdb : (x == ("__debug__" : Str)) = false := by decide) (h1 : starEach (a :: es) X.env = (false, eval a X.env) :: starEach es X.env := by rfl) (h2 : (backTo pos (starEach es X.env)).any (·.1) = false := by rfl) : XV X (.Call (.Name x p) (a :: es) [] pos) (vBi bb A) :=
  (pe_callTy hc hg hm hv ha hn hdb h1 h2).weak fun _ _ _ h => bi_read hs h
end
end IP
end
section
set_option Elab.async false
set_option linter.all false
set_option maxRecDepth 100000
set_option maxHeartbeats 2000000
namespace IP
open PySem L2
/-! ### calls of the text's own functions -/
def RetOk (K : PySem.W.Frag) (H H0' H' : Hp) : Res → V → Prop
  | .dat d, v => Rel K H0' v d
  | .new ds, v => ∃ q vs, v = .ref q ∧ H' q = some (.lst vs) ∧ RelAll K H0' vs ds ∧ H0' q = none ∧ H q = none
def Fro (H0 H H0' : Hp) : Prop := ∀ a o, H0' a = some o → (∃ u, H0 a = some u) ∨ H a = none
/-- what a function promises -/
def spI (K : PySem.W.Frag) (c : Fnc) : Sp := fun vs H Q _ => ∃ (H0 : Hp) (ds : List D) (r : Res), Sub H0 H ∧
  ((RelAll K H0 vs ds ∧ c none ds = some (r, none) ∧ ∀ v H0' H', Sub H0 H0' → Sub H0' H' → Sub H H' → Fro H0 H H0' → RetOk K H H0' H' r v → Q v H') ∨
   (∃ p xs xds yds ws, vs = .ref p :: ws ∧ RelAll K H0 ws ds ∧ H p = some (.lst xs) ∧ RelAll K H0 xs xds ∧ H0 p = none ∧ c (some xds) ds = some (r, some yds) ∧
     ∀ v H0' H' ys, Sub H0 H0' → Sub H0' H' → (∀ a o, H a = some o → a ≠ p → H' a = some o) → Fro H0 H H0' → H' p = some (.lst ys) → RelAll K H0' ys yds → H0' p = none → RetOk K H H0' H' r v → Q v H'))
section
variable {K : PySem.W.Frag} {A B : Hp}
/-- values without lists do not read lists -/
theorem Rel.noList : ∀ {v : V} {d : D}, Rel K A v d → noList d = true → (∀ a o, A a = some o → (∀ xs, o ≠ .lst xs) → B a = some o) → Rel K B v d := by
  intro v d r
  refine Rel.rec (motive_1 := fun v d _ => IP.noList d = true → (∀ a o, A a = some o → (∀ xs, o ≠ .lst xs) → B a = some o) → Rel K B v d) (motive_2 := fun vs ds _ => noListAll ds = true → (∀ a o, A a = some o → (∀ xs, o ≠ .lst xs) → B a = some o) → RelAll K B vs ds) ?_ ?_ ?_ ?_ ?_ ?_ ?_ ?_ ?_ r
  · intro _ _; exact .non
  · intro b _ _; exact .bl b
  · intro i _ _; exact .int i
  · intro x _ _; exact .str x
  · intro a xs ds e r ih c _
    simp [IP.noList] at c
  · intro a xs ds e r ih c k
    refine .tup ?_ (ih (by simpa [IP.noList] using c) k)
    rcases e with (e | ⟨o, e⟩) | e
    · exact .inl (.inl (k _ _ e fun xs z => nomatch z))
    · exact .inl (.inr ⟨o, k _ _ e fun xs z => nomatch z⟩)
    · exact .inr e
  · intro a ns e c
    simp [IP.scr, IP.noList] at c
  · intro _ _; exact .nil
  · intro v vs d ds r1 r2 h1 h2 c k
    have c' : IP.noList d = true ∧ noListAll ds = true := by simpa [noListAll] using c
    exact .cons (h1 c'.1 k) (h2 c'.2 k)
theorem RelAll.noList : ∀ {vs : List V} {ds : List D}, RelAll K A vs ds → noListAll ds = true → (∀ a o, A a = some o → (∀ xs, o ≠ .lst xs) → B a = some o) → RelAll K B vs ds
  | _, _, .nil, _, _ => .nil
  | _, _, .cons r t, c, k => by
    have c' := by simpa [noListAll] using c
    exact .cons (r.noList c'.1 k) (RelAll.noList t c'.2 k)
end
section
variable {G : Gx} {H0 H H0' H' : Hp} {δ δ' : Env} {σ : L2.St}
/-- the heap has grown, the owned lists stand -/
theorem Rl.grow (R : Rl G H0 H δ σ) (hH : Sub H H') (h0 : Sub H0 H0') (hs : Sub H0' H') (hf : Fro H0 H H0') : Rl G H0' H' δ σ := by
  have nf : ∀ p u, H p = some u → H0 p = none → H0' p = none := fun p u e n => by
    cases q : H0' p with
    | none => rfl
    | some o =>
      rcases hf p o q with ⟨u', e'⟩ | e'
      · rw [n] at e'
        cases e'
      · rw [e] at e'
        cases e'
  refine ⟨R.len, hs, R.up.trans h0, fun a o e h h' => hH a o (R.keep a o e h h'), fun a o e => ?_, fun i s e => ?_, fun i j a h1 h2 => R.inj i j a (R.holdsOf (keep_sub hH) h1) (R.holdsOf (keep_sub hH) h2), R.prs, R.qrsOf (keep_sub hH)⟩
  · rcases hf a o e with ⟨u, h⟩ | h
    · exact R.fro a u h
    · exact .inr (R.fresh h).2.1
  · refine (R.slot i s e).mono h0 (fun a o e _ _ => hH a o e) (fun a h1 h2 hn => ?_)
    obtain ⟨⟨o, eo⟩, _⟩ := R.held ⟨s, e, h1, h2⟩
    exact nf a o eo hn
theorem ResOk.of {r : Res} {v : V} (R : Rl G H0 H δ σ) (hH : Sub H H') (h : RetOk G.K H H0' H' r v) : ResOk G H0' H' δ σ r v := by
  cases r with
  | dat d => exact h
  | new ds =>
    obtain ⟨q, vs, e1, e2, e3, e4, e5⟩ := h
    have f := R.fresh e5
    exact ⟨q, vs, e1, e2, e3, e4, f.2.1, fun i h => f.2.2 i (R.holdsOf (keep_sub hH) h)⟩
theorem OpdAll.vals0 : ∀ {os : List Opd} {vs : List V} {ds : List D}, OpdAll G H0 σ os vs → anyAt os = false → rdAll δ os = some ds → RelAll G.K H0 vs ds
  | _, _, _, .nil, _, e => by
    cases e
    exact .nil
  | _, _, _, .cons (o := o) h t, n, e => by
    cases o with
    | val d =>
      simp only [IP.rdAll, IP.rd, Option.bind_eq_some_iff, Option.map_eq_some_iff, Option.some.injEq] at e
      obtain ⟨d', rfl, es, e2, rfl⟩ := e
      exact .cons h (OpdAll.vals0 t n e2)
    | «at» i => cases n
end
section
variable {X : Cx} {K : PySem.W.Frag} {c : Fnc} {A : Ea}
open Classical in
theorem call_read {σ : L2.St} {H : Hp} {Q : VK} {E : XK} (h : kE K (vCall c A) σ H Q) : tCall (spI K c) [] E (kA K A) σ H Q := by
  obtain ⟨G, H0, δ, res, δ', eK, R, e, q⟩ := h
  subst eK
  simp only [vCall, Option.bind_eq_some_iff] at e
  obtain ⟨⟨os, δ1⟩, e1, ds, e2, ⟨r, out⟩, e3, e4⟩ := e
  cases out with
  | some _ => cases e4
  | none =>
    refine ⟨G, H0, δ, os, δ1, rfl, R, e1, fun vs A' H' R1 s1 k1 => ?_⟩
    show spI G.K c (vs ++ []) H' Q E
    rw [List.append_nil]
    by_cases hat : anyAt os = false
    · dsimp only at e4
      rw [if_pos hat] at e4
      cases e4
      refine ⟨A', ds, _, R1.sub, .inl ⟨k1.vals0 hat e2, e3, fun v B H'' h1 h2 h3 h4 h5 => ?_⟩⟩
      exact q v B H'' (R1.grow h3 h1 h2 h4) (s1.trans h1) (ResOk.of R1 h3 h5)
    · dsimp only at e4
      rw [if_neg hat] at e4
      -- the owned lists are lent
      let L : Addr → Prop := fun a => ∃ (i : Nat) (ds : List D), (δ1[i]? = some (Slot.own ds) ∨ δ1[i]? = some (Slot.prm ds)) ∧ σ[i]? = some (some (V.ref a))
      let AC : Hp := fun a => if L a then H' a else A' a
      have nL : ∀ a, L a → A' a = none := fun a ⟨i, ds, x1, x3⟩ => by
        rcases x1 with x1 | x1
        · exact (R1.held (Holds.of x1 rfl x3)).2.1
        · exact (R1.held (Holds.of x1 rfl x3)).2.1
      have lL : ∀ a, L a → ∃ xs, H' a = some (.lst xs) := fun a ⟨i, ds, x1, x3⟩ => by
        rcases x1 with x1 | x1
        · obtain ⟨p, ws, y1, y2, y3, y4, y5⟩ := R1.slot i _ x1
          rw [x3] at y1
          cases y1
          exact ⟨_, y2⟩
        · obtain ⟨p, ws, y1, y0, y2, y3, y4⟩ := R1.slot i _ x1
          rw [x3] at y1
          cases y1
          exact ⟨_, y2⟩
      have subA : Sub A' AC := fun a o e => by
        show (if L a then H' a else A' a) = some o
        by_cases ha : L a
        · rw [nL a ha] at e
          cases e
        · rw [if_neg ha]
          exact e
      have subH : Sub AC H' := fun a o e => by
        have e' : (if L a then H' a else A' a) = some o := e
        by_cases ha : L a
        · rw [if_pos ha] at e'
          exact e'
        · rw [if_neg ha] at e'
          exact R1.sub a o e'
      have rel : ∀ {os : List Opd} {vs : List V} {ds : List D}, OpdAll G A' σ os vs → rdAll δ1 os = some ds → RelAll G.K AC vs ds := by
        intro os vs ds h
        induction h generalizing ds with
        | nil =>
          intro e
          cases e
          exact .nil
        | cons h t ih =>
          intro e
          rename_i o os v vs
          simp only [IP.rdAll, Option.bind_eq_some_iff, Option.map_eq_some_iff] at e
          obtain ⟨d, x1, es, x2, rfl⟩ := e
          refine .cons ?_ (ih x2)
          cases o with
          | val d' =>
            simp only [IP.rd, Option.some.injEq] at x1
            subst x1
            exact Rel.sub subA h
          | «at» i =>
            simp only [IP.rd, Option.bind_eq_some_iff] at x1
            obtain ⟨s, y1, y2⟩ := x1
            have h' : σ[i]? = some (some v) := h
            have sj := R1.slot i s y1
            cases s with
            | un => cases y2
            | dat d' =>
              simp only [slotD, Option.some.injEq] at y2
              subst y2
              obtain ⟨w, z1, z2⟩ := sj
              rw [h'] at z1
              cases z1
              exact z2.sub subA
            | own ds =>
              simp only [slotD, Option.some.injEq] at y2
              subst y2
              obtain ⟨p, ws, z1, z2, z3, z4, z5⟩ := sj
              rw [h'] at z1
              cases z1
              refine .lst ?_ (z3.sub subA)
              show (if L p then H' p else A' p) = _
              rw [if_pos ⟨i, _, .inl y1, h'⟩]
              exact z2
            | obj _ => cases y2
            | pob _ => cases y2
            | prm ds =>
              simp only [slotD, Option.some.injEq] at y2
              subst y2
              obtain ⟨p, ws, z1, z0, z2, z3, z4⟩ := sj
              rw [h'] at z1
              cases z1
              refine .lst ?_ (z3.sub subA)
              show (if L p then H' p else A' p) = _
              rw [if_pos ⟨i, _, .inr y1, h'⟩]
              exact z2
      refine ⟨AC, ds, r, subH, .inl ⟨rel k1 e2, e3, fun v B H'' h1 h2 h3 h4 h5 => ?_⟩⟩
      let B0 : Hp := fun a => if L a then none else B a
      have b1 : Sub A' B0 := fun a o e => by
        show (if L a then none else B a) = some o
        by_cases ha : L a
        · rw [nL a ha] at e
          cases e
        · rw [if_neg ha]
          exact h1 a o (subA a o e)
      have b2 : Sub B0 H'' := fun a o e => by
        have e' : (if L a then none else B a) = some o := e
        by_cases ha : L a
        · rw [if_pos ha] at e'
          cases e'
        · rw [if_neg ha] at e'
          exact h2 a o e'
      have b3 : Fro A' H' B0 := fun a o e => by
        have e' : (if L a then none else B a) = some o := e
        by_cases ha : L a
        · rw [if_pos ha] at e'
          cases e'
        · rw [if_neg ha] at e'
          rcases h4 a o e' with ⟨u, hu⟩ | hu
          · have hu' : (if L a then H' a else A' a) = some u := hu
            rw [if_neg ha] at hu'
            exact .inl ⟨u, hu'⟩
          · exact .inr hu
      have b4 : ∀ a o, B a = some o → (∀ xs, o ≠ .lst xs) → B0 a = some o := fun a o e n => by
        show (if L a then none else B a) = some o
        by_cases ha : L a
        · obtain ⟨xs, hx⟩ := lL a ha
          have : AC a = some (.lst xs) := by
            show (if L a then H' a else A' a) = _
            rw [if_pos ha]
            exact hx
          rw [h1 a _ this] at e
          cases e
          exact absurd rfl (n xs)
        · rw [if_neg ha]
          exact e
      have b5 : Rl G B0 H'' δ1 σ := R1.grow h3 b1 b2 b3
      cases r with
      | dat d =>
        simp only at e4
        split at e4
        · rename_i hn
          cases e4
          exact q v B0 H'' b5 (s1.trans b1) (Rel.noList h5 hn b4)
        · cases e4
      | new es =>
        simp only at e4
        split at e4
        · rename_i hn
          cases e4
          obtain ⟨z, ws, x1, x2, x3, x4, x5⟩ := h5
          have f := R1.fresh x5
          refine q v B0 H'' b5 (s1.trans b1) ⟨z, ws, x1, x2, x3.noList hn b4, ?_, f.2.1, fun i h => f.2.2 i (R1.holdsOf (keep_sub h3) h)⟩
          show (if L z then none else B z) = none
          by_cases hz : L z
          · rw [if_pos hz]
          · rw [if_neg hz]
            exact x4
        · cases e4
theorem callR_read {σ : L2.St} {H : Hp} {Q : VK} {E : XK} {i : Nat} (h : kE K (vCallR c i A) σ H Q) : tCall (spI K c) [] E (tCons (tVar i) (kA K A)) σ H Q := by
  obtain ⟨G, H0, δ, res, δ', eK, R, e, q⟩ := h
  subst eK
  simp only [vCallR, Option.bind_eq_some_iff] at e
  obtain ⟨⟨os, δ1⟩, e1, ds, e2, e3⟩ := e
  split at e1
  · rename_i ho
    have hv : ∃ p, σ[i]? = some (some (.ref p)) := by
      unfold ownAt at ho
      cases es : δ[i]? with
      | none =>
        rw [es] at ho
        cases ho
      | some s =>
        rw [es] at ho
        have sj := R.slot i s es
        cases s with
        | own ds =>
          obtain ⟨p, vs, h1, _⟩ := sj
          exact ⟨p, h1⟩
        | prm ds =>
          obtain ⟨p, vs, h1, _⟩ := sj
          exact ⟨p, h1⟩
        | _ => cases ho
    obtain ⟨p, hp⟩ := hv
    refine ⟨.ref p, hp, G, H0, δ, os, δ1, rfl, R, e1, fun vs A' H' R1 s1 k1 => ?_⟩
    show spI G.K c (.ref p :: vs ++ []) H' Q E
    rw [List.append_nil]
    have ra := k1.vals e2
    have key : ∀ (s s' : Slot) (xs : List D) (r : Res) (ys : List D), δ1[i]? = some s → isOwn s = true → c (some xs) ds = some (r, some ys) → (∃ vs, H' p = some (.lst vs) ∧ RelAll G.K A' vs xs ∧ A' p = none) → ((s' = .own ys ∧ ∃ xs, s = .own xs) ∨ (s' = .prm ys ∧ ∃ xs, s = .prm xs)) →
        res = r → δ' = δ1.set i s' → spI G.K c (.ref p :: vs) H' Q E := by
      rintro s s' xs r ys x1 x2 x3 ⟨ws, x4, x5, x6⟩ x7 rfl rfl
      refine ⟨A', ds, res, R1.sub, .inr ⟨p, ws, xs, ys, vs, rfl, ra, x4, x5, x6, x3, fun v B H'' zs h1 h2 h3 h4 h5 h6 h7 h8 => ?_⟩⟩
      have hB : Sub B (upd H'' p (.lst ws)) := fun a o e => by
        rw [upd_ne (ne_of_none e h7)]
        exact h2 a o e
      have hH : Sub H' (upd H'' p (.lst ws)) := fun a o e => by
        by_cases ha : a = p
        · subst ha
          rw [upd_same, ← e, x4]
        · rw [upd_ne ha]
          exact h3 a o e ha
      have R2 : Rl G B (upd H'' p (.lst ws)) δ1 σ := R1.grow hH h1 hB h4
      have R3 := R2.put (p := p) x1 x2 hp h6 x7
      rw [upd_upd] at R3
      have e5 : upd H'' p (.lst zs) = H'' := by
        funext a
        by_cases ha : a = p
        · subst ha
          rw [upd_same, h5]
        · rw [upd_ne ha]
      rw [e5] at R3
      refine q v B H'' R3 (s1.trans h1) ?_
      cases res with
      | dat d => exact h8
      | new es =>
        obtain ⟨z, us, y1, y2, y3, y4, y5⟩ := h8
        have f := R1.fresh y5
        refine ⟨z, us, y1, y2, y3, y4, f.2.1, fun j hj => ?_⟩
        obtain ⟨u, u1, u2, u3⟩ := hj
        by_cases hij : i = j
        · subst hij
          obtain ⟨pz, w1, w2⟩ := u3
          rw [hp] at w1
          cases w1
          rcases w2 with w2 | ⟨w2, _⟩
          · rw [w2, x4] at y5
            cases y5
          · rw [List.getElem?_set_self (List.getElem?_eq_some_iff.mp x1).1] at u1
            cases u1
            rcases x7 with ⟨rfl, _⟩ | ⟨rfl, _⟩ <;> cases w2
        · rw [List.getElem?_set_ne hij] at u1
          refine f.2.2 j (R1.holdsOf (fun a o e n => ?_) ⟨u, u1, u2, u3⟩)
          have ha : a ≠ p := fun z => by
            rw [z, x4] at e
            cases e
            exact n _ rfl
          exact h3 a o e ha
    dsimp only at e3
    cases es : δ1[i]? with
    | none =>
      rw [es] at e3
      cases e3
    | some s =>
      rw [es] at e3
      have sj := R1.slot i s es
      cases s with
      | own xs =>
        simp only [Option.bind_eq_some_iff] at e3
        obtain ⟨⟨r, out⟩, e4, e5⟩ := e3
        cases out with
        | none => cases e5
        | some ys =>
          cases e5
          obtain ⟨p', ws, y1, y2, y3, y4, y5⟩ := sj
          rw [hp] at y1
          cases y1
          exact key _ _ xs _ ys es rfl e4 ⟨ws, y2, y3, y4⟩ (.inl ⟨rfl, xs, rfl⟩) rfl rfl
      | prm xs =>
        simp only [Option.bind_eq_some_iff] at e3
        obtain ⟨⟨r, out⟩, e4, e5⟩ := e3
        cases out with
        | none => cases e5
        | some ys =>
          cases e5
          obtain ⟨p', ws, y1, y0, y2, y3, y4⟩ := sj
          rw [hp] at y1
          cases y1
          exact key _ _ xs _ ys es rfl e4 ⟨ws, y2, y3, y4⟩ (.inr ⟨rfl, xs, rfl⟩) rfl rfl
      | _ => cases e3
  · cases e1
variable {CX : CXT} {k : Nat} {fa : Addr} {fd : FuncData} {ps : List Str} {E : XK} {x : Str} {p pos : Pos} {e : Expr} {es : List Expr}
/-- f(e, ..) -/
theorem x_call (F : FnOk X.prog X.w X.K X.mg X.base CX k fa fd ps (spI X.K c)) (hr : Room k X.A) (hg : Gl X x) (hm : X.mg x = some (.ref fa)) (hk : PySem.W.keepIn X.K (.ref fa) = true) (hb : Binds X.K fd ps []) (hx : Passes CX X E)
    (ha : XA X (e :: es) A) (hdb : (x == ("__debug__" : Str)) = false := by decide) (he : starEach (e :: es) X.env = (false, eval e X.env) :: starEach es X.env := by rfl) (hpl : (backTo pos (starEach es X.env)).any (·.1) = false := by rfl) :
    XV X (.Call (.Name x p) (e :: es) [] pos) (vCall c A) := (pe_call F hr hg hm hk hb .nil hx ha hdb he hpl).weak fun _ _ _ h => call_read h
/-- f(), a def without parameters -/
theorem x_call0 (F : FnOk X.prog X.w X.K X.mg X.base CX k fa fd ps (spI X.K c)) (hr : Room k X.A) (hg : Gl X x) (hm : X.mg x = some (.ref fa)) (hk : PySem.W.keepIn X.K (.ref fa) = true) (hb : Binds X.K fd ps []) (hx : Passes CX X E)
    (hdb : (x == ("__debug__" : Str)) = false := by decide) : XV X (.Call (.Name x p) [] [] pos) (vCall c aNil) := (pe_call0 F hr hg hm hk hb .nil hx hdb).weak fun σ H Q h => by
  obtain ⟨G, H0, δ, os, δ', eK, R, e, q⟩ := call_read (E := E) h
  cases e
  exact q [] H0 H R (Sub.refl _) .nil
/-- f(row, e, ..), the list row by reference -/
theorem x_callR {i : Nat} {y : Str} {py : Pos} (F : FnOk X.prog X.w X.K X.mg X.base CX k fa fd ps (spI X.K c)) (hr : Room k X.A) (hg : Gl X x) (hm : X.mg x = some (.ref fa)) (hk : PySem.W.keepIn X.K (.ref fa) = true) (hb : Binds X.K fd ps []) (hx : Passes CX X E)
    (hv : PE X (.Name y py) (tVar i)) (ha : XA X es A) (hs : starEach (.Name y py :: es) X.env = (false, eval (.Name y py) X.env) :: starEach es X.env := by rfl) (hdb : (x == ("__debug__" : Str)) = false := by decide) (hpl : (backTo pos (starEach es X.env)).any (·.1) = false := by rfl) :
    XV X (.Call (.Name x p) (.Name y py :: es) [] pos) (vCallR c i A) := (pe_call F hr hg hm hk hb .nil hx (pa_cons hv ha hs) hdb hs hpl).weak fun _ _ _ h => callR_read h
end
end IP
end
section
set_option Elab.async false
set_option linter.all false
set_option maxRecDepth 100000
set_option maxHeartbeats 2000000
namespace IP
open PySem L2
/-! ### targets -/
def GS (K : PySem.W.Frag) (g : TG) (t : Tg) : Prop := ∀ (G : Gx) (A H : Hp) (δ δ' : Env) (σ : L2.St) (v : V) (d : D), G.K = K → Rl G A H δ σ → Rel G.K A v d → t.put d δ = some δ' →
  ∀ Q : L2.St → Hp → Prop, (∀ σ', Rl G A H δ' σ' → (∀ vs, (∀ i ∈ t.slots, i ∈ vs) → wipe σ' vs = wipe σ vs) → Q σ' H) → g v σ H Q
theorem wipe_set {σ : L2.St} {i : Nat} {x : Option V} : ∀ {vs : List Nat}, i ∈ vs → wipe (σ.set i x) vs = wipe σ vs
  | [], h => by simp at h
  | v :: vs, h => by
    unfold wipe
    by_cases hv : i ∈ vs
    · rw [wipe_set hv]
    · have e : i = v := by
        rcases List.mem_cons.mp h with e | e
        · exact e
        · exact absurd e hv
      subst e
      have comm : ∀ ws : List Nat, i ∉ ws → wipe (σ.set i x) ws = (wipe σ ws).set i x := by
        intro ws
        induction ws with
        | nil => intro _; rfl
        | cons w ws ih =>
          intro hn
          simp only [List.mem_cons, not_or] at hn
          unfold wipe
          rw [ih hn.2, List.set_comm _ _ hn.1]
      rw [comm vs hv, List.set_set]
section
variable {K : PySem.W.Frag}
theorem gs_nm {i : Nat} : GS K (gName i) (.nm i) := by
  intro G A H δ δ' σ v d eK R r e Q q
  refine q _ (Rl.set R e ?_ rfl (fun z => Bool.noConfusion z)) fun vs h => wipe_set (h i (by simp [Tg.slots]))
  have hlt : i < σ.length := by
    rw [R.len]
    have e' : setSlot δ i (.dat d) = some δ' := e
    unfold setSlot at e'
    cases es : δ[i]? with
    | none =>
      rw [es] at e'
      cases e'
    | some s => exact (List.getElem?_eq_some_iff.mp es).1
  exact ⟨v, List.getElem?_set_self hlt, r⟩
inductive GSs (K : PySem.W.Frag) : TGs → List Nat → Prop
  | nil : GSs K gNil []
  | cons {t : TGs} {i : Nat} {is : List Nat} : GSs K t is → GSs K (gCons (gName i) t) (i :: is)
theorem gs_tup {n : Nat} {t : TGs} {is : List Nat} (hn : n = is.length) (h : GSs K t is) : GS K (gTup K n t) (.tup is) := by
  intro G A H δ δ' σ v d eK R r e Q q
  cases d with
  | tuple ds =>
    cases r with
    | tup h1 h2 =>
      rename_i p xs
      have e' : setDs δ is ds = some δ' := e
      have hlen : ∀ {δ : Env} {is : List Nat} {ds : List D}, setDs δ is ds = some δ' → is.length = ds.length := by
        intro δ is
        induction is generalizing δ with
        | nil =>
          intro ds e
          cases ds with
          | nil => rfl
          | cons _ _ => cases e
        | cons i is ih =>
          intro ds e
          cases ds with
          | nil => cases e
          | cons d ds =>
            simp only [setDs, Option.bind_eq_some_iff] at e
            obtain ⟨δ1, _, e2⟩ := e
            rw [List.length_cons, List.length_cons, ih e2]
      refine ⟨p, xs, rfl, by rw [← eK]; exact SqT.sub R.sub h1, by rw [h2.length, hn, hlen e'], ?_⟩
      have go : ∀ (t : TGs) (is : List Nat), GSs K t is → ∀ (δ : Env) (σ : L2.St) (xs : List V) (ds : List D), Rl G A H δ σ → RelAll G.K A xs ds → setDs δ is ds = some δ' →
          ∀ Q : L2.St → Hp → Prop, (∀ σ', Rl G A H δ' σ' → (∀ vs, (∀ i ∈ is, i ∈ vs) → wipe σ' vs = wipe σ vs) → Q σ' H) → t xs σ H Q := by
        intro t is h
        induction h with
        | nil =>
          intro δ σ xs ds R r e Q q
          cases ds with
          | nil =>
            cases r
            cases e
            exact ⟨rfl, q σ R fun vs _ => rfl⟩
          | cons _ _ => cases e
        | cons h ih =>
          rename_i t i is
          intro δ σ xs ds R r e Q q
          cases ds with
          | nil => cases e
          | cons d ds =>
            cases r with
            | cons r1 r2 =>
              simp only [setDs, Option.bind_eq_some_iff] at e
              obtain ⟨δ1, e1, e2⟩ := e
              refine ⟨_, _, rfl, ?_⟩
              refine gs_nm (K := K) G A H δ δ1 σ _ d eK R r1 e1 _ fun σ1 R1 w1 => ?_
              exact ih δ1 σ1 _ ds R1 r2 e2 Q fun σ2 R2 w2 => q σ2 R2 fun vs hv => (w2 vs fun j hj => hv j (List.mem_cons_of_mem _ hj)).trans (w1 vs fun j hj => hv j (by
                have : j = i := by simpa [Tg.slots] using hj
                rw [this]
                exact List.mem_cons_self))
      exact go t is h δ σ xs ds R h2 e' Q q
  | _ => cases e
end

theorem Fro.refl {A H : Hp} : Fro A H A := fun a o e => .inl ⟨o, e⟩
/-! ### what is walked -/
structure IW (G : Gx) (H0 : Hp) (σ : L2.St) (J : It) (xs : List D) (ow : Option Nat) : Prop where
  goes : ∀ i A H δ τ, Rl G A H δ τ → Sub H0 A → (∀ k, ow = some k → τ[k]? = σ[k]?) → still δ xs ow = true → i < xs.length → J.go i H
  stops : ∀ A H δ τ, Rl G A H δ τ → Sub H0 A → (∀ k, ow = some k → τ[k]? = σ[k]?) → still δ xs ow = true → J.stop xs.length H
  yields : ∀ i A H δ τ x H', Rl G A H δ τ → Sub H0 A → (∀ k, ow = some k → τ[k]? = σ[k]?) → still δ xs ow = true → i < xs.length → J.yld i H x H' →
    ∃ B d, Rl G B H' δ τ ∧ Sub A B ∧ Sub H H' ∧ Fro A H B ∧ xs[i]? = some d ∧ Rel G.K B x d
def kI (K : PySem.W.Frag) (f : Ei) : TI := fun σ H R => ∃ G H0 δ xs ow δ', G.K = K ∧ Rl G H0 H δ σ ∧ f δ = some ((xs, ow), δ') ∧
  ∀ J H0' H', Rl G H0' H' δ' σ → Sub H0 H0' → IW G H0' σ J xs ow → R J H'
abbrev XI (X : Cx) (tg e : Expr) (f : Ei) : Prop := PI X tg e (kI X.K f)
section
variable {X : Cx} {K : PySem.W.Frag}
theorem _root_.L2.PI.weak {tg e : Expr} {t t' : TI} (h : PI X tg e t) (w : ∀ σ H R, t' σ H R → t σ H R) : PI X tg e t' := ⟨fun pins s σ H R I q => h.run pins s σ H R I (w σ H R q)⟩
theorem PI.or_ {tg e : Expr} {t t' : TI} {s : TI} (h : PI X tg e t) (h' : PI X tg e t') (w : ∀ σ H R, s σ H R → t σ H R ∨ t' σ H R) : PI X tg e s := ⟨fun pins st σ H R I q => by
  rcases w σ H R q with q | q
  · exact h.run pins st σ H R I q
  · exact h'.run pins st σ H R I q⟩
mutual
theorem same_eq : ∀ {a b : D}, same a b = true → a = b
  | .none, b, h => by cases b <;> simp_all [same]
  | .bool _, b, h => by cases b <;> simp_all [same]
  | .int _, b, h => by cases b <;> simp_all [same]
  | .str _, b, h => by cases b <;> simp_all [same]
  | .list xs, b, h => by
    cases b with
    | list ys =>
      have e := sameAll_eq (a := xs) (b := ys) (by simpa [same] using h)
      rw [e]
    | _ => simp [same] at h
  | .tuple xs, b, h => by
    cases b with
    | tuple ys =>
      have e := sameAll_eq (a := xs) (b := ys) (by simpa [same] using h)
      rw [e]
    | _ => simp [same] at h
  | .dict _, b, h => by cases b <;> simp [same] at h
theorem sameAll_eq : ∀ {a b : List D}, sameAll a b = true → a = b
  | [], b, h => by cases b <;> simp_all [sameAll]
  | x :: xs, b, h => by
    cases b with
    | nil => simp [sameAll] at h
    | cons y ys =>
      have h' : same x y = true ∧ sameAll xs ys = true := by simpa [sameAll] using h
      rw [same_eq h'.1, sameAll_eq h'.2]
end
/-- a sequence of values that is walked in place, by its address -/
def InPlace (G : Gx) (H0 : Hp) (σ : L2.St) (p : Addr) (xs : List D) (ow : Option Nat) : Prop :=
  match ow with
  | none => Rel G.K H0 (.ref p) (.list xs)
  | some k => σ[k]? = some (some (.ref p))
theorem inplace_at {G : Gx} {H0 A H : Hp} {δ : Env} {σ τ : L2.St} {p : Addr} {xs : List D} {ow : Option Nat} (h : InPlace G H0 σ p xs ow) (R : Rl G A H δ τ) (s : Sub H0 A) (hk : ∀ k, ow = some k → τ[k]? = σ[k]?) (st : still δ xs ow = true) :
    ∃ ys, H p = some (.lst ys) ∧ RelAll G.K A ys xs := by
  cases ow with
  | none =>
    have h' : Rel G.K H0 (.ref p) (.list xs) := h
    cases h' with
    | lst h1 h2 => exact ⟨_, R.sub _ _ (s _ _ h1), h2.sub s⟩
  | some k =>
    have h' : σ[k]? = some (some (.ref p)) := h
    rw [← hk k rfl] at h'
    simp only [still] at st
    cases es : δ[k]? with
    | none =>
      rw [es] at st
      cases st
    | some u =>
      rw [es] at st
      have sj := R.slot k u es
      cases u with
      | un => cases st
      | obj _ => cases st
      | pob _ => cases st
      | dat d =>
        obtain ⟨v, e1, r⟩ := sj
        rw [h'] at e1
        cases e1
        cases d with
        | list ys =>
          have e2 := sameAll_eq (a := xs) (b := ys) st
          subst e2
          cases r with
          | lst h1 h2 => exact ⟨_, R.sub _ _ h1, h2⟩
        | _ => cases st
      | own ys =>
        obtain ⟨q, vs, e1, e2, e3, _⟩ := sj
        rw [h'] at e1
        cases e1
        have e4 := sameAll_eq (a := xs) (b := ys) st
        subst e4
        exact ⟨vs, e2, e3⟩
      | prm ys =>
        obtain ⟨q, vs, e1, _, e2, e3, _⟩ := sj
        rw [h'] at e1
        cases e1
        have e4 := sameAll_eq (a := xs) (b := ys) st
        subst e4
        exact ⟨vs, e2, e3⟩
theorem iw_list {G : Gx} {H0 : Hp} {σ : L2.St} {p : Addr} {xs : List D} {ow : Option Nat} (h : InPlace G H0 σ p xs ow) : IW G H0 σ (Itl G.K p) xs ow where
  goes := fun i A H δ τ R s hk st hi => by
    obtain ⟨ys, e1, e2⟩ := inplace_at h R s hk st
    have hl : i < ys.length := by rw [e2.length]; exact hi
    exact ⟨ys, ys[i], SqL.of e1, by simp [hl]⟩
  stops := fun A H δ τ R s hk st => by
    obtain ⟨ys, e1, e2⟩ := inplace_at h R s hk st
    exact ⟨ys, SqL.of e1, Nat.le_of_eq e2.length⟩
  yields := fun i A H δ τ x H' R s hk st hi y => by
    obtain ⟨ys, e1, e2⟩ := inplace_at h R s hk st
    obtain ⟨rfl, y⟩ := y
    obtain ⟨d, h1, h2⟩ := e2.getV (y ys (SqL.of e1))
    exact ⟨A, d, R, Sub.refl _, Sub.refl _, Fro.refl, h1, h2⟩
theorem iw_tup {G : Gx} {H0 : Hp} {σ : L2.St} {p : Addr} {ys : List V} {xs : List D} (h : SqT G.K H0 p ys) (r : RelAll G.K H0 ys xs) {ow : Option Nat} : IW G H0 σ (Itt G.K p) xs ow where
  goes := fun i A H δ τ R s hk st hi => by
    have hl : i < ys.length := by rw [r.length]; exact hi
    exact ⟨ys, ys[i], SqT.sub R.sub (SqT.sub s h), by simp [hl]⟩
  stops := fun A H δ τ R s hk st => ⟨ys, SqT.sub R.sub (SqT.sub s h), Nat.le_of_eq r.length⟩
  yields := fun i A H δ τ x H' R s hk st hi y => by
    obtain ⟨rfl, y⟩ := y
    obtain ⟨d, h1, h2⟩ := r.getV (y ys (SqT.sub R.sub (SqT.sub s h)))
    exact ⟨A, d, R, Sub.refl _, Sub.refl _, Fro.refl, h1, h2.sub s⟩
/-- an operand that is a list, walked in place; a tuple -/
theorem seq_l {G : Gx} {H0 H : Hp} {δ : Env} {σ : L2.St} {o : Opd} {v : V} {xs : List D} (R : Rl G H0 H δ σ) (k : OpdOk G H0 σ o v) (e : rd δ o = some (.list xs)) :
    ∃ p ys, v = .ref p ∧ H p = some (.lst ys) ∧ InPlace G H0 σ p xs (own? o) := by
  rcases R.rd k e with r | ⟨p, ys, ds', ed, ev, e1, e2⟩
  · cases r with
    | lst h1 h2 =>
      rename_i p ys
      refine ⟨p, ys, rfl, R.sub _ _ h1, ?_⟩
      cases o with
      | val d' => exact .lst h1 h2
      | «at» i => exact k
  · cases ed
    subst ev
    refine ⟨p, ys, rfl, e1, ?_⟩
    cases o with
    | val d' =>
      simp only [IP.rd, Option.some.injEq] at e
      subst e
      exact k
    | «at» i => exact k
theorem seq_t {G : Gx} {H0 H : Hp} {δ : Env} {σ : L2.St} {o : Opd} {v : V} {xs : List D} (R : Rl G H0 H δ σ) (k : OpdOk G H0 σ o v) (e : rd δ o = some (.tuple xs)) :
    ∃ p ys, v = .ref p ∧ SqT G.K H0 p ys ∧ RelAll G.K H0 ys xs := by
  rcases R.rd k e with r | ⟨p, ys, ds', ed, _⟩
  · cases r with
    | tup h1 h2 => exact ⟨_, _, rfl, h1, h2⟩
  · cases ed
variable {tg e e2 : Expr} {f g : Eo} {pos p : Pos}
/-- a list or a tuple -/
theorem xi_seq (he : XO X e f) : XI X tg e (iE f) := PI.or_ (pi_list he) (pi_tup he) fun σ H Rr ⟨G, H0, δ, xs, ow, δ', eK, R, e0, q⟩ => by
  simp only [iE, Option.bind_eq_some_iff, Option.map_eq_some_iff] at e0
  obtain ⟨⟨o, δ1⟩, e1, d, e2, ys, e3, e4⟩ := e0
  cases e4
  cases d with
  | list ds =>
    cases e3
    refine .inl ⟨G, H0, δ, o, δ1, eK, R, e1, fun v H0' H' R1 s1 k1 => ?_⟩
    obtain ⟨a, ys, rfl, h1, h2⟩ := seq_l R1 k1 e2
    exact ⟨a, rfl, ⟨ys, SqL.of h1⟩, by rw [← eK]; exact q _ _ _ R1 s1 (iw_list h2)⟩
  | tuple ds =>
    cases e3
    refine .inr ⟨G, H0, δ, o, δ1, eK, R, e1, fun v H0' H' R1 s1 k1 => ?_⟩
    obtain ⟨a, ys, rfl, h1, h2⟩ := seq_t R1 k1 e2
    exact ⟨a, rfl, ⟨ys, by rw [← eK]; exact SqT.sub R1.sub h1⟩, by rw [← eK]; exact q _ _ _ R1 s1 (iw_tup h1 h2)⟩
  | _ => cases e3
theorem rangeD_get {lo : Int} {n i : Nat} (h : i < n) : (rangeD lo n)[i]? = some (.int (lo + (i : Nat))) := by
  unfold rangeD
  simp [h]
theorem rangeD_length (lo : Int) (n : Nat) : (rangeD lo n).length = n := by
  unfold rangeD
  simp
theorem iw_range {G : Gx} {H0 : Hp} {σ : L2.St} {lo : Int} {n : Nat} : IW G H0 σ (Itr lo n) (rangeD lo n) none where
  goes := fun i A H δ τ R s hk st hi => by
    rw [rangeD_length] at hi
    exact hi
  stops := fun A H δ τ R s hk st => by
    rw [rangeD_length]
    exact Nat.le_refl n
  yields := fun i A H δ τ x H' R s hk st hi y => by
    obtain ⟨rfl, rfl⟩ := y
    rw [rangeD_length] at hi
    exact ⟨A, _, R, Sub.refl _, Sub.refl _, Fro.refl, rangeD_get hi, .int _⟩
theorem xi_range1 (hg : Gl X "range") (hm : X.mg "range" = none) (ha : XO X e f) (hs : starEach [e] X.env = (false, eval e X.env) :: starEach [] X.env := by rfl) : XI X tg (.Call (.Name "range" p) [e] [] pos) (iRange1 f) :=
  (pi_range1 hg hm (pa_cons ha pa_nil hs) hs).weak fun σ H Rr ⟨G, H0, δ, xs, ow, δ', eK, R, e0, q⟩ => by
    simp only [iRange1, Option.bind_eq_some_iff] at e0
    obtain ⟨⟨o, δ1⟩, e1, e2⟩ := e0
    refine ⟨G, H0, δ, o, δ1, eK, R, e1, fun v H0' H' R1 s1 k1 => ?_⟩
    cases o with
    | «at» i => cases e2
    | val d =>
      cases d with
      | int j =>
        dsimp only at e2
        split at e2
        · rename_i hj
          cases e2
          cases k1
          exact ⟨j, rfl, hj.1, hj.2, q _ _ _ R1 s1 iw_range⟩
        · cases e2
      | _ => cases e2
theorem xi_range2 (hg : Gl X "range") (hm : X.mg "range" = none) (ha : XO X e f) (hb : XO X e2 g) (hs : starEach [e, e2] X.env = (false, eval e X.env) :: starEach [e2] X.env := by rfl) (hs2 : starEach [e2] X.env = (false, eval e2 X.env) :: starEach [] X.env := by rfl) : XI X tg (.Call (.Name "range" p) [e, e2] [] pos) (iRange2 f g) :=
  (pi_range2 hg hm (pa_cons ha (pa_cons hb pa_nil hs2) hs) (by rw [hs, hs2]; rfl) hs2).weak fun σ H Rr ⟨G, H0, δ, xs, ow, δ', eK, R, e0, q⟩ => by
    simp only [iRange2, Option.bind_eq_some_iff] at e0
    obtain ⟨⟨o, δ1⟩, e1, ⟨o2, δ2⟩, e2, e3⟩ := e0
    refine ⟨G, H0, δ, o, δ1, eK, R, e1, fun v H0' H' R1 s1 k1 => ?_⟩
    refine ⟨G, H0', δ1, o2, δ2, eK, R1, e2, fun w A' B' R2 s2 k2 => ?_⟩
    cases o with
    | «at» i => cases e3
    | val d =>
      cases d with
      | int j =>
        cases o2 with
        | «at» i => cases e3
        | val d =>
          cases d with
          | int l =>
            dsimp only at e3
            split at e3
            · rename_i hj
              cases e3
              cases k1
              cases k2
              exact ⟨j, l, rfl, hj, q _ _ _ R2 (s1.trans s2) iw_range⟩
            · cases e3
          | _ => cases e3
      | _ => cases e3

/-! ### for -/
theorem forGo_drop {g : Tg} {b : Es} {xs : List D} {i : Nat} (h : i < xs.length) : xs.drop i = xs[i] :: xs.drop (i + 1) := List.drop_eq_getElem_cons h
theorem x_for {g : TG} {t : Tg} {b : Es} {body : List Stmt} {it : Ei} (hp : PassesOwn (model X.prog X.w) X.A X.env X.xe) (hc : X.calm = true) (hi : XI X tg e it) (hg : PG X tg g) (gs : GS X.K g t) (hb : XB X body b) (hs : ∀ x, foldedSetIterable e X.env x = pure x := by intro _; rfl) : XS X (.For tg e body [] pos) (sFor it t b) := by
  refine PS.weak (ps_for hp hc hi hg hb hs) fun D σ H ⟨G, H0, δ, o, δ', eK, R, e0, q⟩ => ?_
  simp only [sFor, Option.bind_eq_some_iff] at e0
  obtain ⟨⟨⟨xs, ow⟩, δ1⟩, e1, e2⟩ := e0
  dsimp only at e2
  split at e2
  · rename_i how
    subst how
    refine ⟨G, H0, δ, xs, none, δ1, eK, R, e1, fun J H0' H' R1 s1 iw => ?_⟩
    have st : ∀ δ, still δ xs none = true := fun _ => rfl
    let YY : Nat → Hp → V → Hp → Prop := fun i H x H' => J.yld i H x H'
    let GG : Hp → Prop := fun H => ∃ A δ τ, Rl G A H δ τ ∧ Sub H0' A
    have w : Walk J xs.length GG YY := ⟨fun i H hi ⟨A, δ, τ, R, s⟩ => iw.goes i A H δ τ R s (fun k h => nomatch h) (st _) hi, fun H ⟨A, δ, τ, R, s⟩ => iw.stops A H δ τ R s (fun k h => nomatch h) (st _), fun i H x H' _ _ y => y⟩
    refine for_it w (fun i τ H => (∃ A δ, Rl G A H δ τ ∧ Sub H0' A ∧ forGo t b (xs.drop i) δ = some (o, δ')) ∨ ((∃ A δ, Rl G A H δ τ ∧ Sub H0' A) ∧ False)) (.inl ⟨H0', δ1, R1, Sub.refl _, e2⟩) ?_ ?_ ?_
    · rintro i τ H _ (⟨A, δ, R2, s2, _⟩ | ⟨_, h⟩)
      · exact ⟨A, δ, τ, R2, s2⟩
      · exact h.elim
    · rintro i x τ H H'' hi (⟨A, δ, R2, s2, e3⟩ | ⟨_, h⟩) y
      · obtain ⟨B, d, R3, s3, _, _, e4, r⟩ := iw.yields i A H δ τ x H'' R2 s2 (fun k h => nomatch h) (st _) hi y
        rw [List.drop_eq_getElem_cons hi] at e3
        have ed : xs[i] = d := by
          rw [List.getElem?_eq_getElem hi] at e4
          exact Option.some.inj e4
        rw [ed] at e3
        simp only [forGo, Option.bind_eq_some_iff] at e3
        obtain ⟨δ2, e5, ⟨o2, δ3⟩, e6, e7⟩ := e3
        refine gs G B H'' δ δ2 τ x d eK R3 r e5 _ fun τ2 R4 _ => ?_
        refine ⟨G, B, δ2, o2, δ3, eK, R4, e6, fun τ3 A3 H3 R5 s5 => ?_⟩
        have s6 : Sub H0' A3 := (s2.trans s3).trans s5
        cases o2 with
        | nx => exact .inl ⟨A3, δ3, R5, s6, e7⟩
        | ct => exact .inl ⟨A3, δ3, R5, s6, e7⟩
        | bk =>
          cases e7
          exact q τ3 A3 H3 R5 (s1.trans s6)
        | rt r =>
          cases e7
          exact q τ3 A3 H3 R5 (s1.trans s6)
        | ro r =>
          cases e7
          exact q τ3 A3 H3 R5 (s1.trans s6)
      · exact h.elim
    · rintro τ H (⟨A, δ, R2, s2, e3⟩ | ⟨_, h⟩)
      · rw [List.drop_length] at e3
        cases e3
        exact q τ A H R2 (s1.trans s2)
      · exact h.elim
  · cases e2

/-! ### while -/
theorem x_while {c : Expr} {body : List Stmt} {t : Et} {b : Es} (hp : PassesOwn (model X.prog X.w) X.A X.env X.xe) (hc : XT X c t) (hb : XB X body b) : XS X (.While c body [] pos) (sWhile t b) := by
  refine PS.weak (ps_while hp hc hb) fun D σ H ⟨G, H0, δ, o, δ', eK, R, e0, q⟩ => ?_
  have e0' : whileGo t b turns δ = some (o, δ') := e0
  refine ⟨fun m τ H => ∃ A δ, Rl G A H δ τ ∧ Sub H0 A ∧ whileGo t b m δ = some (o, δ'), ⟨turns, H0, δ, R, Sub.refl _, e0'⟩, ?_⟩
  rintro m τ H ⟨A, δ, R2, s2, e1⟩
  cases m with
  | zero => cases e1
  | succ m =>
    simp only [whileGo, Option.bind_eq_some_iff] at e1
    obtain ⟨⟨k, δ1⟩, e2, e3⟩ := e1
    refine ⟨G, A, δ, k, δ1, eK, R2, e2, fun A1 H1 R3 s3 => ?_⟩
    cases k with
    | false =>
      cases e3
      exact iteF (q τ A1 H1 R3 (s2.trans s3))
    | true =>
      simp only [if_true, Option.bind_eq_some_iff] at e3
      obtain ⟨⟨o2, δ2⟩, e4, e5⟩ := e3
      refine iteT ⟨fun τ H => (∃ A δ, Rl G A H δ τ ∧ Sub H0 A ∧ whileGo t b m δ = some (o, δ')), fun τ H' h => ⟨m, Nat.lt_succ_self m, h⟩, ?_⟩
      refine ⟨G, A1, δ1, o2, δ2, eK, R3, e4, fun τ3 A3 H3 R5 s5 => ?_⟩
      have s6 : Sub H0 A3 := (s2.trans s3).trans s5
      cases o2 with
      | nx => exact ⟨A3, δ2, R5, s6, e5⟩
      | ct => exact ⟨A3, δ2, R5, s6, e5⟩
      | bk =>
        cases e5
        exact q τ3 A3 H3 R5 s6
      | rt r =>
        cases e5
        exact q τ3 A3 H3 R5 s6
      | ro r =>
        cases e5
        exact q τ3 A3 H3 R5 s6

/-! ### blocks and simple statements -/
theorem xb_nil : XB X [] sPass := pss_nil.weak fun D σ H ⟨G, H0, δ, o, δ', eK, R, e, q⟩ => by
  cases e
  exact q σ H0 H R (Sub.refl _)
theorem xb_cons {st : Stmt} {rest : List Stmt} {a b : Es} (h1 : XS X st a) (h2 : XB X rest b) : XB X (st :: rest) (sSeq a b) := (pss_cons h1 h2).weak fun D σ H ⟨G, H0, δ, o, δ', eK, R, e, q⟩ => by
  simp only [sSeq, Option.bind_eq_some_iff] at e
  obtain ⟨⟨o1, δ1⟩, e1, e2⟩ := e
  refine ⟨G, H0, δ, o1, δ1, eK, R, e1, fun τ A H1 R1 s1 => ?_⟩
  cases o1 with
  | nx => exact ⟨G, A, δ1, o, δ', eK, R1, e2, fun τ2 A2 H2 R2 s2 => q τ2 A2 H2 R2 (s1.trans s2)⟩
  | bk =>
    cases e2
    exact q τ A H1 R1 s1
  | ct =>
    cases e2
    exact q τ A H1 R1 s1
  | rt r =>
    cases e2
    exact q τ A H1 R1 s1
  | ro r =>
    cases e2
    exact q τ A H1 R1 s1
theorem xb_one {st : Stmt} {a : Es} (h1 : XS X st a) : XB X [st] a := pss_one h1
theorem xs_pass : XS X (.Pass pos) sPass := ps_pass.weak fun D σ H ⟨G, H0, δ, o, δ', eK, R, e, q⟩ => by
  cases e
  exact q σ H0 H R (Sub.refl _)
theorem xs_break : XS X (.Break pos) sBreak := ps_break.weak fun D σ H ⟨G, H0, δ, o, δ', eK, R, e, q⟩ => by
  cases e
  exact q σ H0 H R (Sub.refl _)
theorem xs_continue : XS X (.Continue pos) sCont := ps_continue.weak fun D σ H ⟨G, H0, δ, o, δ', eK, R, e, q⟩ => by
  cases e
  exact q σ H0 H R (Sub.refl _)
theorem xs_never {st : Stmt} : XS X st sNever := ps_never.weak fun D σ H ⟨G, H0, δ, o, δ', eK, R, e, q⟩ => by cases e
theorem xs_ret {a : Ev} (h : XV X e a) : XS X (.Return (some e) pos) (sRet a) := (ps_ret h).weak fun D σ H ⟨G, H0, δ, o, δ', eK, R, e, q⟩ => by
  simp only [sRet, Option.map_eq_some_iff] at e
  obtain ⟨⟨r, δ1⟩, e1, e2⟩ := e
  cases e2
  exact ⟨G, H0, δ, r, δ1, eK, R, e1, fun v A H1 R1 s1 k => q σ A H1 R1 s1 v k⟩
theorem xs_retN : XS X (.Return none pos) sRetN := ps_retN.weak fun D σ H ⟨G, H0, δ, o, δ', eK, R, e, q⟩ => by
  cases e
  exact q σ H0 H R (Sub.refl _) .non .non
theorem xs_if {c : Expr} {a b : List Stmt} {t : Et} {A B : Es} (hc : XT X c t) (ha : XB X a A) (hb : XB X b B) : XS X (.If c a b pos) (sIf t A B) := (ps_if hc ha hb).weak fun D σ H ⟨G, H0, δ, o, δ', eK, R, e, q⟩ => by
  simp only [sIf, Option.bind_eq_some_iff] at e
  obtain ⟨⟨k, δ1⟩, e1, e2⟩ := e
  refine ⟨G, H0, δ, k, δ1, eK, R, e1, fun A1 H1 R1 s1 => ?_⟩
  cases k with
  | true => exact iteT ⟨G, A1, δ1, o, δ', eK, R1, e2, fun τ2 A2 H2 R2 s2 => q τ2 A2 H2 R2 (s1.trans s2)⟩
  | false => exact iteF ⟨G, A1, δ1, o, δ', eK, R1, e2, fun τ2 A2 H2 R2 s2 => q τ2 A2 H2 R2 (s1.trans s2)⟩
theorem xs_ex {a : Ev} (h : XV X e a) (hs : swapsWith e none pos.line X.env = pure false := by rfl) : XS X (.Expr e pos) (sEx a) := (ps_expr h hs).weak fun D σ H ⟨G, H0, δ, o, δ', eK, R, e, q⟩ => by
  simp only [sEx, Option.map_eq_some_iff] at e
  obtain ⟨⟨r, δ1⟩, e1, e2⟩ := e
  cases e2
  exact ⟨G, H0, δ, r, δ1, eK, R, e1, fun v A H1 R1 s1 k => q σ A H1 R1 s1⟩
theorem setSlot_lt {δ δ' : Env} {i : Nat} {s : Slot} (h : setSlot δ i s = some δ') : i < δ.length := by
  unfold setSlot at h
  cases es : δ[i]? with
  | none =>
    rw [es] at h
    cases h
  | some s => exact (List.getElem?_eq_some_iff.mp es).1
/-- a result goes to a name -/
theorem Rl.store {G : Gx} {A H : Hp} {δ δ' : Env} {σ : L2.St} {i : Nat} {r : Res} {v : V} (R : Rl G A H δ σ) (k : ResOk G A H δ σ r v) (h : setSlot δ i (slotOf r) = some δ') : Rl G A H δ' (σ.set i (some v)) := by
  have hlt := setSlot_lt h
  rw [← R.len] at hlt
  cases r with
  | dat d => exact Rl.set R h ⟨v, List.getElem?_set_self hlt, k⟩ rfl (fun z => Bool.noConfusion z)
  | new ds =>
    obtain ⟨p, vs, rfl, e1, e2, e3, e4, e5⟩ := k
    exact Rl.set R h ⟨p, vs, List.getElem?_set_self hlt, e1, e2, e3, e4⟩ rfl (fun _ q hq j => by
      obtain ⟨p', y1, y2⟩ := hq
      rw [List.getElem?_set_self hlt] at y1
      cases y1
      rcases y2 with rfl | ⟨y2, _⟩
      · exact e5 j
      · cases y2)
theorem set_read {i : Nat} {a : Ev} {D : Ends} {σ : L2.St} {H : Hp} (h : kS K (sSet i a) D σ H) : tAsg (kE K a) (gName i) D σ H := by
  obtain ⟨G, H0, δ, o, δ', eK, R, e, q⟩ := h
  simp only [sSet, Option.bind_eq_some_iff, Option.map_eq_some_iff] at e
  obtain ⟨⟨r, δ1⟩, e1, δ2, e2, e3⟩ := e
  cases e3
  refine ⟨G, H0, δ, r, δ1, eK, R, e1, fun v A H1 R1 s1 k => ?_⟩
  exact q _ A H1 (R1.store k e2) s1
theorem xs_set {i : Nat} {x : Str} {a : Ev} {pos' : Pos} (hN : X.N.Nodup) (hi : X.N[i]? = some x) (hx : Loc X.env.scope x) (h : XV X e a) (hs : swapsWith e (some (.Name x pos')) pos.line X.env = pure false := by rfl)
    (hf : X.fn x = true ∨ X.env.scope.names.lookup x = some .local := by first | exact .inl rfl | exact .inr rfl | assumption) : XS X (.Assign [.Name x pos'] e pos) (sSet i a) := (ps_set hN hi hx h hs hf).weak fun _ _ _ h => set_read h
/-- a, b = e -/
theorem xs_unp {es : List Expr} {n : Nat} {t : TGs} {is : List Nat} {a : Ev} {j : Nat} {tp : Pos} (hg : PG X (.Tuple es j tp) (gTup X.K n t)) (hn : n = is.length) (gs : GSs X.K t is) (h : XV X e a) (hs : swapsWithSole [.Tuple es j tp] e pos.line X.env = pure false := by rfl) (hw : swappedStores [.Tuple es j tp] e X.env = pure none := by rfl)
    (h1 : (assignEach [.Tuple es j tp] X.env).map (·.2) = [assign (.Tuple es j tp) X.env] := by rfl) : XS X (.Assign [.Tuple es j tp] e pos) (sUnp is a) := (ps_asg h hg hs hw h1).weak fun D σ H ⟨G, H0, δ, o, δ', eK, R, e, q⟩ => by
  simp only [sUnp, Option.bind_eq_some_iff] at e
  obtain ⟨⟨r, δ1⟩, e1, e2⟩ := e
  refine ⟨G, H0, δ, r, δ1, eK, R, e1, fun v A H1 R1 s1 k => ?_⟩
  cases r with
  | new ds => cases e2
  | dat d =>
    cases d with
    | tuple ds =>
      simp only [Option.map_eq_some_iff] at e2
      obtain ⟨δ2, e3, e4⟩ := e2
      cases e4
      exact gs_tup hn gs G A H1 δ1 _ σ v _ eK R1 k e3 _ fun τ R2 _ => q τ A H1 R2 s1
    | _ => cases e2
/-- x.append(e) -/
theorem withOwn_at {G : Gx} {A H : Hp} {δ δ' : Env} {σ : L2.St} {i : Nat} {k : List D → Option (List D)} (R : Rl G A H δ σ) (h : withOwn δ i k = some δ') :
    ∃ p xs vs ys, σ[i]? = some (some (.ref p)) ∧ H p = some (.lst vs) ∧ RelAll G.K A vs xs ∧ k xs = some ys ∧ ∀ ws, RelAll G.K A ws ys → Rl G A (upd H p (.lst ws)) δ' σ := by
  unfold withOwn at h
  cases es : δ[i]? with
  | none =>
    rw [es] at h
    cases h
  | some s =>
    rw [es] at h
    have sj := R.slot i s es
    cases s with
    | own xs =>
      simp only [Option.map_eq_some_iff] at h
      obtain ⟨ys, e1, rfl⟩ := h
      obtain ⟨p, vs, x1, x2, x3, x4, x5⟩ := sj
      exact ⟨p, xs, vs, ys, x1, x2, x3, e1, fun ws hw => R.put es rfl x1 hw (.inl ⟨rfl, xs, rfl⟩)⟩
    | prm xs =>
      simp only [Option.map_eq_some_iff] at h
      obtain ⟨ys, e1, rfl⟩ := h
      obtain ⟨p, vs, x1, x0, x2, x3, x4⟩ := sj
      exact ⟨p, xs, vs, ys, x1, x2, x3, e1, fun ws hw => R.put es rfl x1 hw (.inr ⟨rfl, xs, rfl⟩)⟩
    | _ => cases h
/-- the slot's list as it stands before the arguments -/
theorem own_ref {G : Gx} {A H : Hp} {δ : Env} {σ : L2.St} {i : Nat} (R : Rl G A H δ σ) (h : ownAt δ i = true) : ∃ p vs, σ[i]? = some (some (.ref p)) ∧ H p = some (.lst vs) := by
  unfold ownAt at h
  cases es : δ[i]? with
  | none =>
    rw [es] at h
    cases h
  | some s =>
    rw [es] at h
    have sj := R.slot i s es
    cases s with
    | own ds =>
      obtain ⟨p, vs, h1, h2, _⟩ := sj
      exact ⟨p, vs, h1, h2⟩
    | prm ds =>
      obtain ⟨p, vs, h1, _, h2, _⟩ := sj
      exact ⟨p, vs, h1, h2⟩
    | _ => cases h
theorem xs_app {i : Nat} {y : Str} {py ap cp : Pos} {a : Ev} (hv : PE X (.Name y py) (tVar i)) (h : XV X e a)
    (hs : starEach [e] X.env = (false, eval e X.env) :: starEach [] X.env := by rfl)
    (hbase : attributeBase (.Name y py) "append" X.env (eval (.Name y py) X.env) = eval (.Name y py) X.env := by rfl)
    (hfew : ((backTo cp (starEach [e] X.env)).all (fun x => !x.1) && (backToKw cp (keywordEach [] X.env)).all (fun x => x.1.isSome)
      && decide ([e].length + ([] : List Keyword).length + (if ([] : List Keyword).isEmpty then 0 else 1) < 30)) = true := by rfl)
    (hline : (ap.endLine == cp.line) = true := by rfl) (hplain : (backTo cp (starEach [] X.env)).any (·.1) = false := by rfl) (hsw : swapsWith (.Call (.Attribute (.Name y py) "append" ap) [e] [] cp) none pos.line X.env = pure false := by rfl) :
    XS X (.Expr (.Call (.Attribute (.Name y py) "append" ap) [e] [] cp) pos) (sApp i a) :=
  (ps_expr (pe_bm PySem.F.plainAttrs_list PySem.F.slot_list_append PySem.F.type_list_append mt_append hv (pa_cons h pa_nil hs) hbase hfew hline hs hplain) hsw).weak fun D σ H ⟨G, H0, δ, o, δ', eK, R, e, q⟩ => by
    simp only [sApp, Option.bind_eq_some_iff, Option.map_eq_some_iff] at e
    obtain ⟨⟨r, δ1⟩, e1, δ2, e2, e3⟩ := e
    cases e3
    split at e1
    · rename_i ho
      obtain ⟨p, vs, hp, hl⟩ := own_ref R ho
      refine ⟨.ref p, hp, .inl ⟨rfl, vs, SqL.of hl⟩, G, H0, δ, r, δ1, eK, R, e1, fun v A H1 R1 s1 k => ?_⟩
      obtain ⟨A2, R2, s2, k2⟩ := R1.toD k
      obtain ⟨p', xs, ws, ys, x1, x2, x3, x4, x5⟩ := withOwn_at R2 e2
      rw [hp] at x1
      cases x1
      split at x4
      · rename_i hlen
        cases x4
        refine ⟨p, ws, v, rfl, rfl, x2, Nat.lt_of_lt_of_le (by rw [x3.length]; exact hlen) (line_le (Nat.le_refl _)), ?_⟩
        exact q σ A2 _ (x5 _ (x3.append (.cons k2 .nil))) (s1.trans s2)
      · cases x4
    · cases e1
/-- x.pop() -/
theorem xs_pop {i : Nat} {y : Str} {py ap cp : Pos} (hv : PE X (.Name y py) (tVar i))
    (hbase : attributeBase (.Name y py) "pop" X.env (eval (.Name y py) X.env) = eval (.Name y py) X.env := by rfl)
    (hline : (ap.endLine == cp.line) = true := by rfl) (hsw : swapsWith (.Call (.Attribute (.Name y py) "pop" ap) [] [] cp) none pos.line X.env = pure false := by rfl) :
    XS X (.Expr (.Call (.Attribute (.Name y py) "pop" ap) [] [] cp) pos) (sPop i) :=
  (ps_expr (pe_bm0 PySem.F.plainAttrs_list PySem.F.slot_list_pop PySem.F.type_list_pop mt_pop hv hbase hline) hsw).weak fun D σ H ⟨G, H0, δ, o, δ', eK, R, e, q⟩ => by
    simp only [sPop, Option.map_eq_some_iff] at e
    obtain ⟨δ2, e2, e3⟩ := e
    cases e3
    obtain ⟨p', xs, ws, ys, x1, x2, x3, x4, x5⟩ := withOwn_at R e2
    split at x4
    · cases x4
    · rename_i hne
      cases x4
      have hw : ∃ y, ws[ws.length - 1]? = some y := by
        have : 0 < ws.length := by
          rw [x3.length]
          cases xs with
          | nil => simp at hne
          | cons _ _ => simp
        exact ⟨ws[ws.length - 1]'(by omega), List.getElem?_eq_getElem (by omega)⟩
      obtain ⟨y, hy⟩ := hw
      refine ⟨.ref p', x1, .inl ⟨rfl, ws, SqL.of x2⟩, p', ws, y, rfl, rfl, x2, hy, ?_⟩
      exact q σ H0 _ (x5 _ x3.dropLast) (Sub.refl _)
/-- x[i] = e -/
theorem ixN_eq (n : Nat) (i : Int) : IP.ixN n i = L2.ixN n i := rfl
theorem xs_setIx {i : Nat} {y : Str} {py tp : Pos} {ie : Expr} {f g : Eo} (hv : PE X (.Name y py) (tVar i)) (hi : XO X ie g) (h : XO X e f)
    (ha : ∀ v, assign (.Subscript (.Name y py) ie tp) X.env v = (do
      let ov ← holding [v] (eval (.Name y py) X.env)
      let iv ← holding [v, ov] (eval ie X.env)
      standAt tp
      holding [v, ov, iv] (setItem ov iv v)
      release [v, ov, iv] []) := by intro _; rfl)
    (hs : swapsWithSole [.Subscript (.Name y py) ie tp] e pos.line X.env = pure false := by rfl) (hw : swappedStores [.Subscript (.Name y py) ie tp] e X.env = pure none := by rfl)
    (h1 : (assignEach [.Subscript (.Name y py) ie tp] X.env).map (·.2) = [assign (.Subscript (.Name y py) ie tp) X.env] := by rfl) :
    XS X (.Assign [.Subscript (.Name y py) ie tp] e pos) (sSetIx i g f) :=
  (ps_asg h (pg_sub hv hi set_list ha) hs hw h1).weak fun D σ H ⟨G, H0, δ, o, δ', eK, R, e, q⟩ => by
    simp only [sSetIx, Option.bind_eq_some_iff] at e
    obtain ⟨⟨o1, δ1⟩, e1, ⟨o2, δ2⟩, e2, e3⟩ := e
    refine ⟨G, H0, δ, o1, δ1, eK, R, e1, fun v A H1 R1 s1 k1 => ?_⟩
    split at e2
    · rename_i ho
      obtain ⟨p, vs, hp, hl⟩ := own_ref R1 ho
      refine ⟨.ref p, hp, G, A, δ1, o2, δ2, eK, R1, e2, fun w A2 H2 R2 s2 k2 => ?_⟩
      cases o1 with
      | «at» _ => cases e3
      | val d =>
        cases o2 with
        | «at» _ => cases e3
        | val d2 =>
          cases d2 with
          | int k =>
            simp only [Option.map_eq_some_iff] at e3
            obtain ⟨δ3, e4, e5⟩ := e3
            cases e5
            cases k2
            obtain ⟨p', xs, ws, ys, x1, x2, x3, x4, x5⟩ := withOwn_at R2 e4
            rw [hp] at x1
            cases x1
            simp only [Option.map_eq_some_iff] at x4
            obtain ⟨j, x6, x7⟩ := x4
            subst x7
            refine ⟨p, ws, k, j, rfl, rfl, x2, by rw [x3.length]; exact x6, ?_⟩
            exact q σ A2 _ (x5 _ (RelAll.set (Rel.sub s2 k1) j x3)) (s1.trans s2)
          | _ => cases e3
    · cases e2
/-- x op= e, of ints -/
theorem xs_aug {i : Nat} {x : Str} {op : Operator} {b : Int → Int → Int} {f : Eo} {pos' : Pos} (hN : X.N.Nodup) (hi : X.N[i]? = some x) (hx : Loc X.env.scope x) (h : XO X e f) (ho : PIp X op (ipI b))
    (hf : X.fn x = true ∨ X.env.scope.names.lookup x = some .local := by first | exact .inl rfl | exact .inr rfl | assumption) : XS X (.AugAssign (.Name x pos') op e pos) (sAug i b f) :=
  (ps_aug hN hi hx h ho hf).weak fun D σ H ⟨G, H0, δ, o, δ', eK, R, e, q⟩ => by
    unfold sAug at e
    cases es : δ[i]? with
    | none =>
      rw [es] at e
      cases e
    | some s =>
      rw [es] at e
      have sj := R.slot i s es
      cases s with
      | dat d =>
        cases d with
        | int a =>
          simp only [Option.bind_eq_some_iff] at e
          obtain ⟨⟨o1, δ1⟩, e1, e2⟩ := e
          obtain ⟨v, x1, x2⟩ := sj
          cases x2
          refine ⟨_, x1, G, H0, δ, o1, δ1, eK, R, e1, fun w A H1 R1 s1 k1 => ?_⟩
          cases o1 with
          | «at» _ => cases e2
          | val d =>
            cases d with
            | int c =>
              simp only [Option.map_eq_some_iff] at e2
              obtain ⟨δ2, e3, e4⟩ := e2
              cases e4
              cases k1
              exact ⟨a, c, rfl, rfl, q _ A H1 (R1.store (r := .dat (.int (b a c))) (v := .int (b a c)) (.int _) e3) s1⟩
            | _ => cases e2
        | _ => cases e
      | _ => cases e
end
end IP
end
section
set_option Elab.async false
set_option linter.all false
set_option maxRecDepth 100000
set_option maxHeartbeats 2000000
namespace IP
open PySem L2
/-! ### a new list that nobody names yet stays as it is: it is taken for a thing of the entry -/
section
variable {G : Gx} {A B H H' : Hp} {δ δ' : Env} {σ : L2.St} {p : Addr} {vs : List V}
def Gx.with (G : Gx) (p : Addr) (vs : List V) : Gx := { G with H := upd G.H p (.lst vs) }
theorem Rl.hold (R : Rl G A H δ σ) (h1 : H p = some (.lst vs)) (h2 : A p = none) (h3 : G.H p = none) (h4 : ∀ i, ¬ Holds H δ σ i p) : Rl (G.with p vs) A H δ σ := by
  refine ⟨R.len, R.sub, R.up, fun a o e h h' => ?_, fun a o e => ?_, fun i s e => ?_, R.inj, R.prs, R.qrs⟩
  · have e' : upd G.H p (.lst vs) a = some o := e
    by_cases ha : a = p
    · subst ha
      rw [upd_same] at e'
      cases e'
      exact h1
    · rw [upd_ne ha] at e'
      exact R.keep a o e' h h'
  · rcases R.fro a o e with h | h
    · exact .inl h
    · refine .inr ?_
      have ha : a ≠ p := fun z => by
        rw [z, h2] at e
        cases e
      show upd G.H p (.lst vs) a = none
      rw [upd_ne ha]
      exact h
  · have sj := R.slot i s e
    cases s with
    | own ds =>
      obtain ⟨q, ws, e1, e2, e3, e4, e5⟩ := sj
      refine ⟨q, ws, e1, e2, e3, e4, ?_⟩
      have hq : q ≠ p := fun z => by
        subst z
        exact h4 i (Holds.of e rfl e1)
      show upd G.H p (.lst vs) q = none
      rw [upd_ne hq]
      exact e5
    | obj fs =>
      obtain ⟨q, w, e1, e2, e3, e4⟩ := sj
      have hq : q ≠ p := fun z => by
        subst z
        exact h4 i (Holds.of e rfl e1)
      have hw : w ≠ p := fun z => by
        subst z
        exact h4 i (Holds.ofRow e rfl rfl e1 e2.row)
      refine ⟨q, w, e1, e2, ?_, ?_⟩
      · show upd G.H p (.lst vs) q = none
        rw [upd_ne hq]
        exact e3
      · show upd G.H p (.lst vs) w = none
        rw [upd_ne hw]
        exact e4
    | _ => exact sj
structure Held (G : Gx) (A H : Hp) (δ : Env) (σ : L2.St) (p : Addr) (vs : List V) : Prop where
  at_ : H p = some (.lst vs)
  a : A p = none
  g : G.H p = none
  h : ∀ i, ¬ Holds H δ σ i p
/-- and is found again -/
theorem Rl.found (R0 : Rl G A H δ σ) (h : Held G A H δ σ p vs) {σ' : L2.St} (R : Rl (G.with p vs) B H' δ' σ') : Rl G B H' δ' σ' ∧ Held G B H' δ' σ' p vs := by
  have hpr : ∀ z ∈ G.pr, z.2 ≠ p := fun z hz e => h.h z.1 (e ▸ R0.prHold hz)
  have hqs : p ∉ G.qs := fun hq => by
    obtain ⟨i, hi⟩ := R0.qrHold hq
    exact h.h i hi
  have hp : H' p = some (.lst vs) := R.keep p (.lst vs) upd_same hpr hqs
  have hB : B p = none := by
    cases q : B p with
    | none => rfl
    | some o =>
      rcases R.fro p o q with ⟨u, hu⟩ | hu
      · have := R0.up p u hu
        rw [h.a] at this
        cases this
      · have hu' : upd G.H p (.lst vs) p = none := hu
        rw [upd_same] at hu'
        cases hu'
  have back : ∀ q, upd G.H p (.lst vs) q = none → G.H q = none := fun q e => by
    by_cases hq : q = p
    · rw [hq]
      exact h.g
    · rw [upd_ne hq] at e
      exact e
  refine ⟨⟨R.len, R.sub, R.up, fun a o e hh hq => R.keep a o ?_ hh hq, fun a o e => ?_, fun i s e => ?_, R.inj, R.prs, R.qrs⟩, hp, hB, h.g, fun i hi => ?_⟩
  · have ha : a ≠ p := fun z => by
      rw [z, h.g] at e
      cases e
    show upd G.H p (.lst vs) a = some o
    rw [upd_ne ha]
    exact e
  · rcases R.fro a o e with z | z
    · exact .inl z
    · exact .inr (back a z)
  · have sj := R.slot i s e
    cases s with
    | own ds =>
      obtain ⟨q, ws, e1, e2, e3, e4, e5⟩ := sj
      exact ⟨q, ws, e1, e2, e3, e4, back q e5⟩
    | obj fs =>
      obtain ⟨q, w, e1, e2, e3, e4⟩ := sj
      exact ⟨q, w, e1, e2, back q e3, back w e4⟩
    | _ => exact sj
  · rcases (R.held hi).2.2 with x | ⟨z, x1, x2⟩ | x
    · have x' : upd G.H p (.lst vs) p = none := x
      rw [upd_same] at x'
      cases x'
    · exact hpr z x1 x2
    · exact hqs x
end

/-! ### several values at once -/
def Pend (G : Gx) (A H : Hp) (δ : Env) (σ : L2.St) : List Res → List V → Prop
  | [], [] => True
  | r :: rs, v :: vs => ResOk G A H δ σ r v ∧ Pend G A H δ σ rs vs ∧ (∀ ds, r = .new ds → ∀ p, v = .ref p → ∀ r' v', (r', v') ∈ rs.zip vs → ∀ es, r' = .new es → v' ≠ .ref p)
  | _, _ => False
def kR (K : PySem.W.Frag) (fs : List Ev) : TA := fun σ H Q => ∃ G H0 δ rs δ', G.K = K ∧ Rl G H0 H δ σ ∧ pEvs fs δ = some (rs, δ') ∧ ∀ vs H0' H', Rl G H0' H' δ' σ → Sub H0 H0' → Pend G H0' H' δ' σ rs vs → Q vs H'
section
variable {X : Cx} {K : PySem.W.Frag} {a : Expr} {es : List Expr} {f : Ev} {fs : List Ev} {pos : Pos}
theorem xr_nil : PA X [] (kR X.K []) := pa_nil.weak fun σ H Q ⟨G, H0, δ, res, δ', eK, R, e, q⟩ => by
  cases e
  exact q [] _ _ R (Sub.refl _) trivial
theorem pend_found {G : Gx} {B H' : Hp} {δ' : Env} {σ : L2.St} {p : Addr} {vs : List V} (Rb : Rl G B H' δ' σ) : ∀ {rs : List Res} {us : List V}, Pend (G.with p vs) B H' δ' σ rs us → G.H p = none → Pend G B H' δ' σ rs us ∧ ∀ r' v', (r', v') ∈ rs.zip us → ∀ es, r' = .new es → v' ≠ .ref p
  | [], [], _, _ => ⟨trivial, fun _ _ h => by simp at h⟩
  | r :: rs, u :: us, ⟨h1, h2, h3⟩, hg => by
    obtain ⟨i1, i2⟩ := pend_found Rb h2 hg
    have hr : ResOk G B H' δ' σ r u ∧ ∀ es, r = .new es → u ≠ .ref p := by
      cases r with
      | dat d => exact ⟨h1, fun _ z => nomatch z⟩
      | new ds =>
        obtain ⟨q, ws, x1, x2, x3, x4, x5, x6⟩ := h1
        have x5' : upd G.H p (.lst vs) q = none := x5
        have hq : q ≠ p := fun z => by
          rw [z, upd_same] at x5'
          cases x5'
        rw [upd_ne hq] at x5'
        exact ⟨⟨q, ws, x1, x2, x3, x4, x5', x6⟩, fun _ _ z => by
          rw [x1] at z
          cases z
          exact hq rfl⟩
    refine ⟨⟨hr.1, i1, h3⟩, fun r' v' hm es he => ?_⟩
    rw [List.zip_cons_cons] at hm
    rcases List.mem_cons.mp hm with e | e
    · cases e
      exact hr.2 es he
    · exact i2 r' v' e es he
theorem xr_cons (ha : XV X a f) (hb : PA X es (kR X.K fs)) (hs : starEach (a :: es) X.env = (false, eval a X.env) :: starEach es X.env := by rfl) : PA X (a :: es) (kR X.K (f :: fs)) := (pa_cons ha hb hs).weak fun σ H Q ⟨G, H0, δ, res, δ', eK, R, e, q⟩ => by
  simp only [pEvs, Option.bind_eq_some_iff, Option.map_eq_some_iff] at e
  obtain ⟨⟨r1, δ1⟩, e1, ⟨rs, δ2⟩, e2, e3⟩ := e
  cases e3
  refine ⟨G, H0, δ, r1, δ1, eK, R, e1, fun v A H1 R1 s1 k1 => ?_⟩
  cases r1 with
  | dat d => exact ⟨G, A, δ1, rs, δ2, eK, R1, e2, fun vs B H2 R2 s2 k2 => q _ B H2 R2 (s1.trans s2) ⟨Rel.sub s2 k1, k2, fun _ z => nomatch z⟩⟩
  | new ds =>
    obtain ⟨p, ws, rfl, x2, x3, x4, x5, x6⟩ := k1
    refine ⟨G.with p ws, A, δ1, rs, δ2, eK, R1.hold x2 x4 x5 x6, e2, fun vs B H2 R2 s2 k2 => ?_⟩
    obtain ⟨R3, hh⟩ := R1.found ⟨x2, x4, x5, x6⟩ R2
    obtain ⟨k3, k4⟩ := pend_found R3 k2 x5
    exact q _ B H2 R3 (s1.trans s2) ⟨⟨p, ws, rfl, hh.at_, x3.sub s2, hh.a, hh.g, hh.h⟩, k3, fun _ _ p' e r' v' hm es he => by
      cases e
      exact k4 r' v' hm es he⟩
def setAll (σ : L2.St) : List Nat → List V → L2.St
  | i :: is, v :: vs => setAll (σ.set i (some v)) is vs
  | _, _ => σ
theorem pend_mono {G : Gx} {A H : Hp} {δ δ' : Env} {σ σ' : L2.St} : ∀ {rs : List Res} {vs : List V}, Pend G A H δ σ rs vs → (∀ r v, (r, v) ∈ rs.zip vs → ∀ ds, r = .new ds → ∀ p, v = .ref p → ∀ i, Holds H δ' σ' i p → Holds H δ σ i p) → Pend G A H δ' σ' rs vs
  | [], [], _, _ => trivial
  | r :: rs, v :: vs, ⟨h1, h2, h3⟩, k => by
    refine ⟨?_, pend_mono h2 (fun r' v' hm => k r' v' (by rw [List.zip_cons_cons]; exact List.mem_cons_of_mem _ hm)), h3⟩
    cases r with
    | dat d => exact h1
    | new ds =>
      obtain ⟨q, ws, x1, x2, x3, x4, x5, x6⟩ := h1
      exact ⟨q, ws, x1, x2, x3, x4, x5, fun i hi => x6 i (k _ _ (by rw [List.zip_cons_cons]; exact List.mem_cons_self) ds rfl q x1 i hi)⟩
theorem Rl.storeAll {G : Gx} {A H : Hp} {δ' : Env} : ∀ {is : List Nat} {rs : List Res} {vs : List V} {δ : Env} {σ : L2.St}, Rl G A H δ σ → Pend G A H δ σ rs vs → setRs δ is rs = some δ' → Rl G A H δ' (setAll σ is vs)
  | [], [], [], _, _, R, _, e => by
    cases e
    exact R
  | [], [], _ :: _, _, _, _, h, _ => h.elim
  | [], _ :: _, _, _, _, _, _, e => by cases e
  | _ :: _, [], _, _, _, _, _, e => by cases e
  | _ :: _, _ :: _, [], _, _, _, h, _ => h.elim
  | i :: is, r :: rs, v :: vs, δ, σ, R, ⟨h1, h2, h3⟩, e => by
    simp only [setRs, Option.bind_eq_some_iff] at e
    obtain ⟨δ1, e1, e2⟩ := e
    have R1 := R.store h1 e1
    show Rl G A H δ' (setAll (σ.set i (some v)) is vs)
    refine Rl.storeAll R1 (pend_mono h2 fun r' v' hm ds he p hp j hj => ?_) e2
    obtain ⟨u, u1, u2, pz, u3, u4⟩ := hj
    have hlt := setSlot_lt e1
    have ed : δ1 = δ.set i (slotOf r) := by
      unfold setSlot at e1
      split at e1
      · cases e1
      · cases e1
      · cases e1
        rfl
      · cases e1
    by_cases hij : i = j
    · subst hij
      rw [List.getElem?_set_self (by rw [R.len]; exact hlt)] at u3
      cases u3
      rw [ed, List.getElem?_set_self hlt] at u1
      cases u1
      cases r with
      | dat d => cases u2
      | new es =>
        rcases u4 with rfl | ⟨u4, _⟩
        · exact absurd hp (h3 es rfl p rfl r' v' hm ds he)
        · cases u4
    · rw [List.getElem?_set_ne hij] at u3
      rw [ed, List.getElem?_set_ne hij] at u1
      exact ⟨u, u1, u2, pz, u3, u4⟩
theorem pend_length {G : Gx} {A H : Hp} {δ : Env} {σ : L2.St} : ∀ {rs : List Res} {vs : List V}, Pend G A H δ σ rs vs → rs.length = vs.length
  | [], [], _ => rfl
  | _ :: _, _ :: _, ⟨_, h, _⟩ => by rw [List.length_cons, List.length_cons, pend_length h]
  | [], _ :: _, h => h.elim
  | _ :: _, [], h => h.elim
theorem pEvs_length : ∀ {fs : List Ev} {δ δ' : Env} {rs : List Res}, pEvs fs δ = some (rs, δ') → rs.length = fs.length
  | [], _, _, _, e => by
    cases e
    rfl
  | f :: fs, _, _, _, e => by
    simp only [pEvs, Option.bind_eq_some_iff, Option.map_eq_some_iff] at e
    obtain ⟨_, _, ⟨_, _⟩, e2, e3⟩ := e
    cases e3
    rw [List.length_cons, List.length_cons, pEvs_length e2]
/-- a, b = e1, e2 -/
theorem xs_par {i j : Nat} {x y : Str} {b : Expr} {g : Ev} {px py pt : Pos} {kt k2 : Nat} {pt2 : Pos} (hc : X.calm = true) (hN : X.N.Nodup) (hi : X.N[i]? = some x) (hj : X.N[j]? = some y) (hij : i ≠ j)
    (hx : X.env.scope.names.lookup x = some .local) (hy : X.env.scope.names.lookup y = some .local) (ha : XV X a f) (hb : XV X b g)
    (hw : swappedStores [.Tuple [.Name x px, .Name y py] kt pt] (.Tuple [a, b] k2 pt2) X.env = pure (some [x, y]))
    (hs : swapsWithSole [.Tuple [.Name x px, .Name y py] kt pt] (.Tuple [a, b] k2 pt2) pos.line X.env = pure false := by rfl) (hs1 : starEach [a, b] X.env = (false, eval a X.env) :: starEach [b] X.env := by rfl) (hs2 : starEach [b] X.env = (false, eval b X.env) :: starEach [] X.env := by rfl) :
    XS X (.Assign [.Tuple [.Name x px, .Name y py] kt pt] (.Tuple [a, b] k2 pt2) pos) (sPar [i, j] [f, g]) :=
  (ps_par hc hN hi hj hij hx hy (xr_cons ha (xr_cons hb xr_nil hs2) hs1) hw hs).weak fun D σ H ⟨G, H0, δ, o, δ', eK, R, e, q⟩ => by
    simp only [sPar, Option.bind_eq_some_iff, Option.map_eq_some_iff] at e
    obtain ⟨⟨rs, δ1⟩, e1, δ2, e2, e3⟩ := e
    cases e3
    refine ⟨G, H0, δ, rs, δ1, eK, R, e1, fun vs A H1 R1 s1 k => ?_⟩
    have hl := pend_length k
    rw [pEvs_length e1] at hl
    match vs, hl, k with
    | [v, w], _, k => exact ⟨v, w, rfl, q _ A H1 (Rl.storeAll R1 k e2) s1⟩
theorem xs_par3 {i j l : Nat} {x y z : Str} {b c : Expr} {g h : Ev} {px py pz pt : Pos} {kt k2 : Nat} {pt2 : Pos} (hc : X.calm = true) (hN : X.N.Nodup) (hi : X.N[i]? = some x) (hj : X.N[j]? = some y) (hl : X.N[l]? = some z) (hij : i ≠ j) (hil : i ≠ l) (hjl : j ≠ l)
    (hx : X.env.scope.names.lookup x = some .local) (hy : X.env.scope.names.lookup y = some .local) (hz : X.env.scope.names.lookup z = some .local) (ha : XV X a f) (hb : XV X b g) (hcc : XV X c h)
    (hw : swappedStores [.Tuple [.Name x px, .Name y py, .Name z pz] kt pt] (.Tuple [a, b, c] k2 pt2) X.env = pure (some [x, y, z]))
    (hs : swapsWithSole [.Tuple [.Name x px, .Name y py, .Name z pz] kt pt] (.Tuple [a, b, c] k2 pt2) pos.line X.env = pure false := by rfl) (hs1 : starEach [a, b, c] X.env = (false, eval a X.env) :: starEach [b, c] X.env := by rfl) (hs2 : starEach [b, c] X.env = (false, eval b X.env) :: starEach [c] X.env := by rfl) (hs3 : starEach [c] X.env = (false, eval c X.env) :: starEach [] X.env := by rfl) :
    XS X (.Assign [.Tuple [.Name x px, .Name y py, .Name z pz] kt pt] (.Tuple [a, b, c] k2 pt2) pos) (sPar [i, j, l] [f, g, h]) :=
  (ps_par3 hc hN hi hj hl hij hil hjl hx hy hz (xr_cons ha (xr_cons hb (xr_cons hcc xr_nil hs3) hs2) hs1) hw hs).weak fun D σ H ⟨G, H0, δ, o, δ', eK, R, e, q⟩ => by
    simp only [sPar, Option.bind_eq_some_iff, Option.map_eq_some_iff] at e
    obtain ⟨⟨rs, δ1⟩, e1, δ2, e2, e3⟩ := e
    cases e3
    refine ⟨G, H0, δ, rs, δ1, eK, R, e1, fun vs A H1 R1 s1 k => ?_⟩
    have hl := pend_length k
    rw [pEvs_length e1] at hl
    match vs, hl, k with
    | [u, v, w], _, k => exact ⟨u, v, w, rfl, q _ A H1 (Rl.storeAll R1 k e2) s1⟩
end

/-! ### comprehensions -/
section
variable {G : Gx} {A H : Hp} {δ δ' δ0 : Env} {σ : L2.St}
theorem wipe_other {σ : L2.St} {i : Nat} : ∀ {vs : List Nat}, i ∉ vs → (wipe σ vs)[i]? = σ[i]?
  | [], _ => rfl
  | v :: vs, h => by
    simp only [List.mem_cons, not_or] at h
    unfold wipe
    rw [List.getElem?_set_ne (fun e => h.1 e.symm), wipe_other h.2]
theorem unAll_spec : ∀ {vs : List Nat} {δ δ' : Env}, unAll vs δ = some δ' → δ'.length = δ.length ∧ (∀ i, i ∈ vs → δ'[i]? = some .un) ∧ (∀ i, i ∉ vs → δ'[i]? = δ[i]?) ∧ (∀ i, i ∈ vs → δ[i]? = some .un ∨ ∃ d, δ[i]? = some (.dat d))
  | [], δ, δ', e => by
    cases e
    simp
  | v :: vs, δ, δ', e => by
    unfold unAll at e
    cases es : δ[v]? with
    | none =>
      rw [es] at e
      cases e
    | some s =>
      rw [es] at e
      have hlt : v < δ.length := (List.getElem?_eq_some_iff.mp es).1
      cases s with
      | un =>
        obtain ⟨h1, h2, h3, h4⟩ := unAll_spec e
        refine ⟨h1, fun i hi => ?_, fun i hi => h3 i fun z => hi (List.mem_cons_of_mem _ z), fun i hi => ?_⟩
        · rcases List.mem_cons.mp hi with z | z
          · subst z
            by_cases hv : i ∈ vs
            · exact h2 i hv
            · rw [h3 i hv]
              exact es
          · exact h2 i z
        · rcases List.mem_cons.mp hi with z | z
          · subst z
            exact .inl es
          · exact h4 i z
      | dat d =>
        obtain ⟨h1, h2, h3, h4⟩ := unAll_spec e
        refine ⟨by rw [h1, List.length_set], fun i hi => ?_, fun i hi => ?_, fun i hi => ?_⟩
        · rcases List.mem_cons.mp hi with z | z
          · subst z
            by_cases hv : i ∈ vs
            · exact h2 i hv
            · rw [h3 i hv]
              exact List.getElem?_set_self hlt
          · exact h2 i z
        · simp only [List.mem_cons, not_or] at hi
          rw [h3 i hi.2, List.getElem?_set_ne (fun z => hi.1 z.symm)]
        · rcases List.mem_cons.mp hi with z | z
          · subst z
            exact .inr ⟨d, es⟩
          · rcases h4 i z with h | ⟨d', h⟩
            · by_cases hvi : v = i
              · subst hvi
                exact .inr ⟨d, es⟩
              · rw [List.getElem?_set_ne hvi] at h
                exact .inl h
            · by_cases hvi : v = i
              · subst hvi
                exact .inr ⟨d, es⟩
              · rw [List.getElem?_set_ne hvi] at h
                exact .inr ⟨d', h⟩
      | _ => cases e
/-- names forgotten -/
theorem Rl.wipe {vs : List Nat} (R : Rl G A H δ σ) (e : unAll vs δ = some δ') : Rl G A H δ' (L2.wipe σ vs) := by
  obtain ⟨h1, h2, h3, h4⟩ := unAll_spec e
  have back : ∀ j q, Holds H δ' (L2.wipe σ vs) j q → Holds H δ σ j q := fun j q ⟨s, s1, s2, p, s3, s4⟩ => by
    by_cases hj : j ∈ vs
    · rw [h2 j hj] at s1
      cases s1
      cases s2
    · rw [h3 j hj] at s1
      rw [wipe_other hj] at s3
      exact ⟨s, s1, s2, p, s3, s4⟩
  have nin : ∀ {j : Nat} {s : Slot}, δ[j]? = some s → isPrm s = true → j ∉ vs := fun {j s} e1 e2 h => by
    rcases h4 _ h with q | ⟨d, q⟩
    · rw [q] at e1
      cases e1
      cases e2
    · rw [q] at e1
      cases e1
      cases e2
  refine ⟨by rw [wipe_length, h1]; exact R.len, R.sub, R.up, R.keep, R.fro, fun i s es => ?_, fun i j p a b => R.inj i j p (back _ _ a) (back _ _ b), fun z hz => ?_, fun q hq => ?_⟩
  · by_cases hi : i ∈ vs
    · rw [h2 i hi] at es
      cases es
      trivial
    · rw [h3 i hi] at es
      have sj := R.slot i s es
      cases s with
      | un => trivial
      | dat d =>
        obtain ⟨v, e1, r⟩ := sj
        exact ⟨v, by rw [wipe_other hi]; exact e1, r⟩
      | own ds =>
        obtain ⟨q, ws, e1, r⟩ := sj
        exact ⟨q, ws, by rw [wipe_other hi]; exact e1, r⟩
      | prm ds =>
        obtain ⟨q, ws, e1, r⟩ := sj
        exact ⟨q, ws, by rw [wipe_other hi]; exact e1, r⟩
      | obj ds =>
        obtain ⟨q, ws, e1, r⟩ := sj
        exact ⟨q, ws, by rw [wipe_other hi]; exact e1, r⟩
      | pob ds =>
        obtain ⟨q, ws, e1, r⟩ := sj
        exact ⟨q, ws, by rw [wipe_other hi]; exact e1, r⟩
  · obtain ⟨s, e1, e2, e3⟩ := R.prs z hz
    have hn := nin e1 e2
    exact ⟨s, by rw [h3 _ hn]; exact e1, e2, by rw [wipe_other hn]; exact e3⟩
  · obtain ⟨j, fs, p', e6, e7, e8⟩ := R.qrs q hq
    have hn := nin e6 rfl
    exact ⟨j, fs, p', by rw [h3 _ hn]; exact e6, by rw [wipe_other hn]; exact e7, e8⟩
theorem backAll_spec : ∀ {vs : List Nat} {δ : Env}, δ.length = δ0.length → (backAll δ0 vs δ).length = δ.length ∧ (∀ i, i ∈ vs → (backAll δ0 vs δ)[i]? = δ0[i]?) ∧ (∀ i, i ∉ vs → (backAll δ0 vs δ)[i]? = δ[i]?)
  | [], δ, _ => by simp [backAll]
  | v :: vs, δ, hl => by
    unfold backAll
    cases es : δ0[v]? with
    | none =>
      obtain ⟨h1, h2, h3⟩ := backAll_spec (vs := vs) (δ := δ) hl
      refine ⟨h1, fun i hi => ?_, fun i hi => h3 i fun z => hi (List.mem_cons_of_mem _ z)⟩
      rcases List.mem_cons.mp hi with z | z
      · subst z
        have n1 : ¬ i < δ0.length := fun z => by
          rw [List.getElem?_eq_getElem z] at es
          cases es
        show (backAll δ0 vs δ)[i]? = δ0[i]?
        rw [es]
        exact List.getElem?_eq_none (by omega)
      · exact h2 i z
    | some s =>
      have hlt : v < δ.length := by
        rw [hl]
        exact (List.getElem?_eq_some_iff.mp es).1
      obtain ⟨h1, h2, h3⟩ := backAll_spec (vs := vs) (δ := δ.set v s) (by rw [List.length_set]; exact hl)
      refine ⟨by rw [h1, List.length_set], fun i hi => ?_, fun i hi => ?_⟩
      · by_cases hv : i ∈ vs
        · exact h2 i hv
        · rcases List.mem_cons.mp hi with z | z
          · subst z
            show (backAll δ0 vs (δ.set i s))[i]? = _
            rw [h3 i hv, List.getElem?_set_self hlt, es]
          · exact absurd z hv
      · simp only [List.mem_cons, not_or] at hi
        show (backAll δ0 vs (δ.set v s))[i]? = _
        rw [h3 i hi.2, List.getElem?_set_ne (fun z => hi.1 z.symm)]
theorem wipe_wipe (σ : L2.St) (vs : List Nat) : L2.wipe (L2.wipe σ vs) vs = L2.wipe σ vs := by
  apply List.ext_getElem?
  intro i
  by_cases hi : i ∈ vs
  · have key : ∀ (τ : L2.St) (vs : List Nat), i ∈ vs → (L2.wipe τ vs)[i]? = τ[i]?.map fun _ => none := by
      intro τ vs
      induction vs with
      | nil => intro h; simp at h
      | cons v vs ih =>
        intro h
        unfold L2.wipe
        by_cases hv : v = i
        · subst hv
          by_cases hl : v < τ.length
          · rw [List.getElem?_set_self (by rw [wipe_length]; exact hl), List.getElem?_eq_getElem hl]
            rfl
          · rw [List.getElem?_eq_none (by rw [List.length_set, wipe_length]; omega), List.getElem?_eq_none (by omega)]
            rfl
        · rw [List.getElem?_set_ne hv]
          rcases List.mem_cons.mp h with z | z
          · exact absurd z.symm hv
          · exact ih z
    rw [key _ _ hi, key _ _ hi]
    cases σ[i]? <;> rfl
  · rw [wipe_other hi]
/-- a held list is written -/
theorem Rl.relay {p : Addr} {vs ws : List V} (R : Rl G A H δ σ) (h1 : H p = some (.lst vs)) (h2 : A p = none) (h3 : G.H p = none) (h4 : ∀ i, ¬ Holds H δ σ i p) : Rl G A (upd H p (.lst ws)) δ σ := by
  refine ⟨R.len, fun a o e => ?_, R.up, fun a o e h h' => ?_, R.fro, fun i s e => ?_, fun i j a x y => R.inj i j a (R.holdsOf (keep_lst h1) x) (R.holdsOf (keep_lst h1) y), R.prs, R.qrsOf (keep_lst h1)⟩
  · rw [upd_ne (ne_of_none e h2)]
    exact R.sub a o e
  · rw [upd_ne (ne_of_none e h3)]
    exact R.keep a o e h h'
  · refine (R.slot i s e).mono (Sub.refl _) (fun a us ea hs ha => ?_) (fun _ _ _ h => h)
    have : a ≠ p := fun z => by
      subst z
      exact h4 i ⟨s, e, hs, ha⟩
    rw [upd_ne this]
    exact ea
theorem back_holds {A0 H0 : Hp} {vs : List Nat} {δ1 : Env} (R0 : Rl G A0 H0 δ0 σ) (e0 : unAll vs δ0 = some δ1) (R : Rl G A H δ (L2.wipe σ vs)) : ∀ j q, Holds H (backAll δ0 vs δ) σ j q → Holds H δ (L2.wipe σ vs) j q := fun j q ⟨u, u1, u2, p, u3, u4⟩ => by
  obtain ⟨h1, h2, h3, h4⟩ := unAll_spec e0
  have hl : δ.length = δ0.length := by
    have := R.len
    rw [wipe_length, R0.len] at this
    exact this.symm
  obtain ⟨b1, b2, b3⟩ := backAll_spec (vs := vs) hl
  by_cases hj : j ∈ vs
  · rw [b2 j hj] at u1
    rcases h4 j hj with z | ⟨d, z⟩
    · rw [z] at u1
      cases u1
      cases u2
    · rw [z] at u1
      cases u1
      cases u2
  · rw [b3 j hj] at u1
    exact ⟨u, u1, u2, p, by rw [wipe_other hj]; exact u3, u4⟩
/-- and remembered again -/
theorem Rl.back {A0 H0 : Hp} {vs : List Nat} {δ1 : Env} (R0 : Rl G A0 H0 δ0 σ) (e0 : unAll vs δ0 = some δ1) (s : Sub A0 A) (R : Rl G A H δ (L2.wipe σ vs)) : Rl G A H (backAll δ0 vs δ) σ := by
  obtain ⟨h1, h2, h3, h4⟩ := unAll_spec e0
  have hl : δ.length = δ0.length := by
    have := R.len
    rw [wipe_length, R0.len] at this
    exact this.symm
  obtain ⟨b1, b2, b3⟩ := backAll_spec (vs := vs) hl
  have fwd := back_holds R0 e0 R
  have nin : ∀ {j : Nat} {s : Slot}, δ0[j]? = some s → isPrm s = true → j ∉ vs := fun {j s} e1 e2 h => by
    rcases h4 _ h with q | ⟨d, q⟩
    · rw [q] at e1
      cases e1
      cases e2
    · rw [q] at e1
      cases e1
      cases e2
  refine ⟨by rw [b1, hl]; exact R0.len, R.sub, R.up, R.keep, R.fro, fun i u es => ?_, fun i j p a b => R.inj i j p (fwd _ _ a) (fwd _ _ b), fun z hz => ?_, fun q hq => ?_⟩
  · by_cases hi : i ∈ vs
    · rw [b2 i hi] at es
      rcases h4 i hi with z | ⟨d, z⟩
      · rw [z] at es
        cases es
        trivial
      · rw [z] at es
        cases es
        obtain ⟨v, e1, r⟩ := R0.slot i _ z
        exact ⟨v, e1, r.sub s⟩
    · rw [b3 i hi] at es
      have sj := R.slot i u es
      cases u with
      | un => trivial
      | dat d =>
        obtain ⟨v, e1, r⟩ := sj
        exact ⟨v, by rw [wipe_other hi] at e1; exact e1, r⟩
      | own ds =>
        obtain ⟨q, ws, e1, r⟩ := sj
        exact ⟨q, ws, by rw [wipe_other hi] at e1; exact e1, r⟩
      | prm ds =>
        obtain ⟨q, ws, e1, r⟩ := sj
        exact ⟨q, ws, by rw [wipe_other hi] at e1; exact e1, r⟩
      | obj ds =>
        obtain ⟨q, ws, e1, r⟩ := sj
        exact ⟨q, ws, by rw [wipe_other hi] at e1; exact e1, r⟩
      | pob ds =>
        obtain ⟨q, ws, e1, r⟩ := sj
        exact ⟨q, ws, by rw [wipe_other hi] at e1; exact e1, r⟩
  · obtain ⟨u, e1, e2, e3⟩ := R.prs z hz
    obtain ⟨u', e4, e5, e6⟩ := R0.prs z hz
    exact ⟨u, by rw [b3 _ (nin e4 e5)]; exact e1, e2, e6⟩
  · obtain ⟨j, fs, p', e6, e7, e8⟩ := R.qrs q hq
    by_cases hj : j ∈ vs
    · have key : ∀ (τ : L2.St) (ws : List Nat), j ∈ ws → ∀ v, (L2.wipe τ ws)[j]? ≠ some (some v) := by
        intro τ ws
        induction ws with
        | nil => intro h; simp at h
        | cons w ws ih =>
          intro h v
          unfold L2.wipe
          by_cases hv : w = j
          · subst hv
            by_cases hl : w < (L2.wipe τ ws).length
            · rw [List.getElem?_set_self hl]
              intro z
              cases z
            · rw [List.getElem?_eq_none (by rw [List.length_set]; omega)]
              intro z
              cases z
          · rw [List.getElem?_set_ne hv]
            rcases List.mem_cons.mp h with z | z
            · exact absurd z.symm hv
            · exact ih z v
      have this := key σ vs hj (V.ref p')
      exact absurd e7 this
    · exact ⟨j, fs, p', by rw [b3 _ hj]; exact e6, by rw [wipe_other hj] at e7; exact e7, e8⟩
end
section
variable {X : Cx} {K : PySem.W.Frag}
/-- the reading of a comprehension -/
theorem lc_read {it : Ei} {g : TG} {t : Tg} {tt : Et} {te : Ev} {vs : List Nat} (gs : GS K g t) (hv : ∀ i ∈ t.slots, i ∈ vs) {σ : L2.St} {H : Hp} {Q : VK} (h : kE K (vLc vs it t tt te) σ H Q) : tLc (kI K it) g (kT K tt) (kE K te) vs σ H Q := by
  obtain ⟨G, H0, δ, res, δ', eK, R, e, q⟩ := h
  simp only [vLc, Option.bind_eq_some_iff] at e
  obtain ⟨⟨⟨xs, ow⟩, δ1⟩, e1, δ2, e2, e3⟩ := e
  dsimp only at e2 e3
  split at e3
  · rename_i hlen
    simp only [Option.map_eq_some_iff] at e3
    obtain ⟨⟨ys, δ3⟩, e4, e5⟩ := e3
    cases e5
    refine ⟨G, H0, δ, xs, ow, δ1, eK, R, e1, fun J A H1 R1 s1 iw => ?_⟩
    intro D hD
    have fr := R1.freshU (o := .lst []) hD
    have R2 : Rl G A (upd H1 D (.lst [])) δ2 (wipe σ vs) := (R1.laid hD).wipe e2
    have hD2 : Held G A (upd H1 D (.lst [])) δ2 (wipe σ vs) D [] := ⟨upd_same, fr.1, fr.2.1, (by
      intro i hi
      have := ((R1.laid (o := .lst []) hD)).wipe e2
      obtain ⟨s, x1, x2, pz, x3, x4⟩ := hi
      obtain ⟨h1, h2, h3, h4⟩ := unAll_spec e2
      by_cases hj : i ∈ vs
      · rw [h2 i hj] at x1
        cases x1
        cases x2
      · rw [h3 i hj] at x1
        rw [wipe_other hj] at x3
        exact fr.2.2 i ⟨s, x1, x2, pz, x3, x4⟩)⟩
    -- the walked variable, if it is one, is not among the names of the comprehension
    have hk : ∀ {δ : Env} {A H : Hp}, Rl G A H δ (wipe σ vs) → (∀ i, i ∈ vs → δ[i]? = some .un) → still δ xs ow = true → ∀ k, ow = some k → (wipe σ vs)[k]? = σ[k]? := by
      intro δ A H R hun st k ek
      subst ek
      by_cases hj : k ∈ vs
      · simp only [still, hun k hj, slotD] at st
        cases st
      · exact wipe_other hj
    let P : Nat → Hp → Prop := fun i H => ∃ B δ acc accD zs, Rl G B H δ (wipe σ vs) ∧ Sub A B ∧ Held G B H δ (wipe σ vs) D acc ∧ RelAll G.K B acc accD ∧ (∀ i, i ∈ vs → δ[i]? = some .un) ∧ lcGo vs t tt te xs ow (xs.drop i) δ = some (zs, δ3) ∧ ys = accD ++ zs ∧ acc.length ≤ i
    have stl : ∀ {i : Nat} {δ : Env} {zs : List IP.D}, lcGo vs t tt te xs ow (xs.drop i) δ = some (zs, δ3) → still δ xs ow = true := by
      intro i δ zs e
      cases hd : xs.drop i with
      | nil =>
        rw [hd] at e
        unfold lcGo at e
        split at e
        · assumption
        · cases e
      | cons _ _ =>
        rw [hd] at e
        unfold lcGo at e
        split at e
        · assumption
        · cases e
    let GG : Hp → Prop := fun H => ∃ B δ, Rl G B H δ (wipe σ vs) ∧ Sub A B ∧ (∀ i, i ∈ vs → δ[i]? = some .un) ∧ still δ xs ow = true
    have w : Walk J xs.length GG (fun i H x H' => J.yld i H x H') :=
      ⟨fun i H hi ⟨B, δ, R, s, hun, st⟩ => iw.goes i B H δ _ R s (hk R hun st) st hi, fun H ⟨B, δ, R, s, hun, st⟩ => iw.stops B H δ _ R s (hk R hun st) st, fun i H x H' _ _ y => y⟩
    refine lc_it w P ⟨A, δ2, [], [], ys, R2, Sub.refl _, hD2, .nil, (unAll_spec e2).2.1, e4, rfl, Nat.le_refl _⟩ ?_ ?_ ?_
    · rintro i H _ ⟨B, δ, acc, accD, zs, R3, s3, _, _, hun, e6, _, _⟩
      exact ⟨B, δ, R3, s3, hun, stl e6⟩
    · rintro i x H H' hi ⟨B, δ, acc, accD, zs, R3, s3, hh, ra, hun, e6, ey, hl⟩ y
      have st := stl e6
      obtain ⟨C, d, R4, s4, sH, fr4, e7, r⟩ := iw.yields i B H δ _ x H' R3 s3 (hk R3 hun st) st hi y
      -- D is held through the whole turn
      have hh4 : Held G C H' δ (wipe σ vs) D acc := ⟨sH _ _ hh.at_, (by
        cases q : C D with
        | none => rfl
        | some o =>
          rcases fr4 D o q with ⟨u, hu⟩ | hu
          · rw [hh.a] at hu
            cases hu
          · rw [hh.at_] at hu
            cases hu), hh.g, fun i hi => hh.h i (R3.holdsOf (keep_sub sH) hi)⟩
      have R5 := R4.hold hh4.at_ hh4.a hh4.g hh4.h
      rw [List.drop_eq_getElem_cons hi] at e6
      have ed : xs[i] = d := by
        rw [List.getElem?_eq_getElem hi] at e7
        exact Option.some.inj e7
      rw [ed] at e6
      unfold lcGo at e6
      rw [if_pos st] at e6
      simp only [Option.bind_eq_some_iff] at e6
      obtain ⟨δ4, e8, ⟨k, δ5⟩, e9, e10⟩ := e6
      refine gs (G.with D acc) C H' δ δ4 (wipe σ vs) x d eK R5 r e8 _ fun τ R6 w6 => ?_
      have ww : wipe τ vs = wipe σ vs := (w6 vs hv).trans (wipe_wipe σ vs)
      refine ⟨ww, G.with D acc, C, δ4, k, δ5, eK, R6, e9, fun C7 H7 R7 s7 => ?_⟩
      cases k with
      | true =>
        refine iteT ?_
        simp only [if_true, Option.bind_eq_some_iff, Option.map_eq_some_iff] at e10
        obtain ⟨⟨r8, δ8⟩, e11, δ9, e12, ⟨zs', δz⟩, e13, e14⟩ := e10
        cases e14
        refine ⟨G.with D acc, C7, δ5, r8, δ8, eK, R7, e11, fun v C8 H8 R8 s8 k8 => ?_⟩
        obtain ⟨C9, R9, s9, k9⟩ := R8.toD k8
        obtain ⟨R10, hh10⟩ := R4.found hh4 R9
        have R11 : Rl G C9 H8 δ9 (wipe σ vs) := by
          have := R10.wipe e12
          rw [ww] at this
          exact this
        refine ⟨acc, hh10.at_, ?_, ?_⟩
        · have : i < xs.length := hi
          exact Nat.lt_of_lt_of_le (Nat.lt_of_le_of_lt hl hi) (line_le hlen)
        · have un9 := (unAll_spec e12).2.1
          have nh : ∀ j, ¬ Holds H8 δ9 (wipe σ vs) j D := fun j ⟨s, x1, x2, pz, x3, x4⟩ => by
            by_cases hj : j ∈ vs
            · rw [un9 j hj] at x1
              cases x1
              cases x2
            · rw [(unAll_spec e12).2.2.1 j hj] at x1
              rw [wipe_other hj] at x3
              refine hh10.h j ⟨s, x1, x2, pz, ?_, x4⟩
              have : (wipe τ vs)[j]? = (wipe σ vs)[j]? := by rw [ww]
              rw [wipe_other hj, wipe_other hj] at this
              rw [this]
              exact x3
          refine ⟨C9, δ9, acc ++ [v], accD ++ [r8.toD], zs', R11.relay hh10.at_ hh10.a hh10.g nh, ?_, ⟨upd_same, hh10.a, hh10.g, fun i hi => nh i (R11.holdsOf (keep_lst hh10.at_) hi)⟩, (ra.sub (((s4.trans s7).trans s8).trans s9)).append (.cons k9 .nil), un9, e13, ?_, ?_⟩
          · exact s3.trans (((s4.trans s7).trans s8).trans s9)
          · rw [ey, List.append_assoc]
            rfl
          · rw [List.length_append, List.length_singleton]
            omega
      | false =>
        refine iteF ?_
        rw [if_neg Bool.false_ne_true] at e10
        simp only [Option.bind_eq_some_iff] at e10
        obtain ⟨δ9, e12, e13⟩ := e10
        obtain ⟨R10, hh10⟩ := R4.found hh4 R7
        have R11 : Rl G C7 H7 δ9 (wipe σ vs) := by
          have := R10.wipe e12
          rw [ww] at this
          exact this
        have un9 := (unAll_spec e12).2.1
        have nh : ∀ j, ¬ Holds H7 δ9 (wipe σ vs) j D := fun j ⟨s, x1, x2, pz, x3, x4⟩ => by
          by_cases hj : j ∈ vs
          · rw [un9 j hj] at x1
            cases x1
            cases x2
          · rw [(unAll_spec e12).2.2.1 j hj] at x1
            rw [wipe_other hj] at x3
            refine hh10.h j ⟨s, x1, x2, pz, ?_, x4⟩
            have : (wipe τ vs)[j]? = (wipe σ vs)[j]? := by rw [ww]
            rw [wipe_other hj, wipe_other hj] at this
            rw [this]
            exact x3
        exact ⟨C7, δ9, acc, accD, zs, R11, s3.trans (s4.trans s7), ⟨hh10.at_, hh10.a, hh10.g, nh⟩, ra.sub (s4.trans s7), un9, e13, ey, by omega⟩
    · rintro H ⟨B, δ, acc, accD, zs, R3, s3, hh, ra, hun, e6, ey, hl⟩
      rw [List.drop_length] at e6
      unfold lcGo at e6
      split at e6
      · cases e6
        rw [List.append_nil] at ey
        subst ey
        have R4 := Rl.back R1 e2 s3 R3
        refine q _ B H R4 (s1.trans s3) ⟨D, acc, rfl, hh.at_, ra, hh.a, hh.g, fun i hi => ?_⟩
        exact hh.h i (back_holds R1 e2 R3 i D hi)
      · cases e6
  · cases e3
variable {elt tg iter : Expr} {ifs : List Expr} {scope : Scope} {own : List (Str × Nat)} {pos : Pos} {it : Ei} {g : TG} {t : Tg} {tt : Et} {te : Ev}
abbrev XTs (X : Cx) (ifs : List Expr) (f : Et) : Prop := PTs X ifs (kT X.K f)
theorem xts_nil : XTs X [] tYes := ⟨fun pins s σ H Q I h => pts_nil.run pins s σ H Q I (by
  obtain ⟨G, H0, δ, b, δ', eK, R, e, q⟩ := h
  cases e
  exact q _ _ R (Sub.refl _))⟩
theorem xts_one {c : Expr} {f : Et} (h : XT X c f) : XTs X [c] f := pts_one h
theorem x_lc (hc : X.calm = true) (hN : X.N.Nodup) (hi : XI X tg iter it) (ok : BlkOk X.N X.env.scope scope own) (gs : GS X.K g t) (hv : ∀ i ∈ t.slots, i ∈ own.map (·.2))
    (hg : ∀ (s : Shared) (H : Hp) (C : Addr) (cl : List (Str × Addr)) (fp : List Addr), PG (X.blk s H scope (compEnvC scope cl C X.env) fp) tg g) (ht : ∀ (s : Shared) (H : Hp) (C : Addr) (cl : List (Str × Addr)) (fp : List Addr), XTs (X.blk s H scope (compEnvC scope cl C X.env) fp) ifs tt)
    (he : ∀ (s : Shared) (H : Hp) (C : Addr) (cl : List (Str × Addr)) (fp : List Addr), XV (X.blk s H scope (compEnvC scope cl C X.env) fp) elt te) (hs : ∀ x, foldedSetIterable iter X.env x = pure x := by intro _; rfl) :
    XV X (.ListComp elt [⟨tg, iter, ifs, 0⟩] scope pos) (vLc (own.map (·.2)) it t tt te) := (pe_lc hc hN hi ok hg ht he hs).weak fun _ _ _ h => lc_read gs hv h
theorem xs_setLc {i : Nat} {y : Str} {py spos : Pos} (hc : X.calm = true) (hN : X.N.Nodup) (hy : X.N[i]? = some y) (hyl : X.env.scope.names.lookup y = some .local)
    (hsw : swapsWith (.ListComp elt [⟨tg, iter, ifs, 0⟩] scope pos) (some (.Name y py)) spos.line X.env = pure true) (hi : XI X tg iter it) (ok : BlkOk X.N X.env.scope scope own) (gs : GS X.K g t) (hv : ∀ i ∈ t.slots, i ∈ own.map (·.2))
    (hg : ∀ (s : Shared) (H : Hp) (C : Addr) (cl : List (Str × Addr)) (fp : List Addr), PG (X.blk s H scope (compEnvC scope cl C X.env) fp) tg g) (ht : ∀ (s : Shared) (H : Hp) (C : Addr) (cl : List (Str × Addr)) (fp : List Addr), XTs (X.blk s H scope (compEnvC scope cl C X.env) fp) ifs tt)
    (he : ∀ (s : Shared) (H : Hp) (C : Addr) (cl : List (Str × Addr)) (fp : List Addr), XV (X.blk s H scope (compEnvC scope cl C X.env) fp) elt te) (hs : ∀ x, foldedSetIterable iter X.env x = pure x := by intro _; rfl) :
    XS X (.Assign [.Name y py] (.ListComp elt [⟨tg, iter, ifs, 0⟩] scope pos) spos) (sSet i (vLc (own.map (·.2)) it t tt te)) :=
  (ps_setLc hc hN hy hyl hsw hi ok hg ht he hs).weak fun D σ H h => by
    have := set_read h
    exact lc_read gs hv (K := X.K) (by
      obtain ⟨G, H0, δ, r, δ', eK, R, e, q⟩ := this
      exact ⟨G, H0, δ, r, δ', eK, R, e, q⟩)
end
end IP
end
section
set_option Elab.async false
set_option linter.all false
set_option maxRecDepth 100000
set_option maxHeartbeats 4000000
/-! tuple * int, any int. -/
namespace L2
open PySem PySem.Spec PyProof.Rows
theorem tuple_mulS (l : Addr) (items : Array Value) (n : Nat) (dd : Option Addr) (sl : Array (Option Value)) (x : Int) (u : Tok) (c0 : (decide (x < -(2 ^ 63)) || decide (x ≥ 2 ^ 63)) = false) (c1 : (items.isEmpty || x == 1) = true) :
    Meets (Builtin.«tuple.__mul__» ⟨[.ref l, .int x u], []⟩) (fun _ R s => s.heap.get? l = some { cls := .type "tuple", dict := dd, data := .seq items n, slots := sl } ∧
      R (.ok (.ret (Value.ref l))) s) :=
  .of_wp fun prog w A R s h => by
    obtain ⟨hp, g, d, tk, os⟩ := s
    obtain ⟨hl, h⟩ := h
    have f1 := AutoSeq1.idx_int
    wp_walk using wpAny_loadPart' hl
    repeat (first
      | (refine wpAny_ite_false (decide_eq_false (by rw [c0]; exact Bool.false_ne_true)) ?_; wp_walk using wpAny_loadPart' hl)
      | (refine wpAny_ite_true (decide_eq_true c1) ?_; wp_walk using wpAny_loadPart' hl))
    exact ⟨_, rfl, h⟩
theorem tuple_mul0 (l : Addr) (items : Array Value) (n : Nat) (dd : Option Addr) (sl : Array (Option Value)) (x : Int) (u : Tok) (c0 : (decide (x < -(2 ^ 63)) || decide (x ≥ 2 ^ 63)) = false) (c1 : (items.isEmpty || x == 1) = false) (c2 : (decide (x ≤ 0) || items.isEmpty) = true) :
    Meets (Builtin.«tuple.__mul__» ⟨[.ref l, .int x u], []⟩) (fun _ R s => s.heap.get? l = some { cls := .type "tuple", dict := dd, data := .seq items n, slots := sl } ∧
      R (.ok (.ret (Value.ref s.heap.objs.size))) { s with heap := s.heap.push { cls := Value.type "tuple", data := Data.seq #[] }, toks := s.toks }) :=
  .of_wp fun prog w A R s h => by
    obtain ⟨hp, g, d, tk, os⟩ := s
    obtain ⟨hl, h⟩ := h
    have f1 := AutoSeq1.idx_int
    wp_walk using wpAny_loadPart' hl
    repeat (first
      | (refine wpAny_ite_false (decide_eq_false (by rw [c0]; exact Bool.false_ne_true)) ?_; wp_walk using wpAny_loadPart' hl)
      | (refine wpAny_ite_false (decide_eq_false (by rw [c1]; exact Bool.false_ne_true)) ?_; wp_walk using wpAny_loadPart' hl)
      | (refine wpAny_ite_true (decide_eq_true c2) ?_; wp_walk using wpAny_loadPart' hl))
    exact ⟨_, rfl, h⟩
/-- t * k: t itself (empty, or k = 1), or a new tuple -/
def rRepA (K : PySem.W.Frag) : R2 := fun x y H Q => ∃ l k xs, x = .ref l ∧ y = .int k ∧ SqT K H l xs ∧ -(2 ^ 62) ≤ k ∧ k ≤ 2 ^ 62 ∧ xs.length * k.toNat ≤ sizeLine ∧ (xs = [] ∨ k = 1 → Q (.ref l) H) ∧
  (¬ (xs = [] ∨ k = 1) → ∀ p, H p = none → Q (.ref p) (upd H p (.tup (List.replicate k.toNat xs).flatten)))
section
variable {X : Cx}
theorem op_repA : OpR X (binaryOp .Mult) (rRepA X.K) := by
  intro pins s σ H x y v u Q I rx ry h
  obtain ⟨l, k, xs, rfl, rfl, hT, h1, h2, hz, q1, q2⟩ := h
  cases rx
  obtain ⟨t, rfl⟩ := ry
  obtain ⟨its, r, ⟨⟨cls, dd, data, sl⟩, ho, hc, n, hd⟩, hs⟩ := I.tuple hT
  simp only at hc hd
  subst hc hd
  have hle : its.length = xs.length := r.length.symm
  have hsz0 : its.toArray.size = xs.length := by rw [List.size_toArray, hle]
  have c0 : (decide (k < -(2 ^ 63)) || decide (k ≥ 2 ^ 63)) = false := by
    rw [decide_eq_false (by omega), decide_eq_false (by omega)] <;> rfl
  by_cases same : xs = [] ∨ k = 1
  · have c1 : (its.toArray.isEmpty || k == 1) = true := by
      rcases same with e | e
      · have : its = [] := List.eq_nil_of_length_eq_zero (by rw [hle, e]; rfl)
        rw [this]
        rfl
      · rw [e]
        simp
    refine wpAny_binaryOp_repeat_ref (T := "tuple") (U := "int") (by decide) ⟨_, ho, rfl⟩ (fun s' => typeIs_int s' k t) noFill_tuple_mul F.fills_int_mul F.slot_int_rmul repeat_tuple F.slot_int_index.lookup
      (call_meets F.slot_int_rmul (typeIs_int s k t) F.entry_int_rmul (F.args_int_rmul_2 _ _) (int_rmul_tuple k t l its.toArray n dd sl)
        ⟨ho, rfl, ⟨_, ho, rfl⟩, call_meets F.slot_tuple_mul ⟨_, ho, rfl⟩ F.entry_tuple_mul (F.args_tuple_mul_2 _ _) (tuple_mulS l its.toArray n dd sl k t c0 c1) ⟨ho, ?_⟩⟩)
    exact ⟨.ref l, H, I, rfl, q1 same⟩
  · have hne : xs ≠ [] := fun e => same (.inl e)
    have hn : its ≠ [] := fun e => hne (by
      rw [e] at hle
      exact List.eq_nil_of_length_eq_zero hle.symm)
    have hi : its.toArray.isEmpty = false := by
      cases its with
      | nil => exact absurd rfl hn
      | cons a b => rfl
    have c1 : (its.toArray.isEmpty || k == 1) = false := by
      rw [hi, Bool.false_or]
      exact beq_eq_false_iff_ne.mpr (fun e => same (.inr e))
    by_cases hk : k ≤ 0
    · have c2 : (decide (k ≤ 0) || its.toArray.isEmpty) = true := by
        rw [decide_eq_true hk] <;> rfl
      refine wpAny_binaryOp_repeat_ref (T := "tuple") (U := "int") (by decide) ⟨_, ho, rfl⟩ (fun s' => typeIs_int s' k t) noFill_tuple_mul F.fills_int_mul F.slot_int_rmul repeat_tuple F.slot_int_index.lookup
        (call_meets F.slot_int_rmul (typeIs_int s k t) F.entry_int_rmul (F.args_int_rmul_2 _ _) (int_rmul_tuple k t l its.toArray n dd sl)
          ⟨ho, rfl, ⟨_, ho, rfl⟩, call_meets F.slot_tuple_mul ⟨_, ho, rfl⟩ F.entry_tuple_mul (F.args_tuple_mul_2 _ _) (tuple_mul0 l its.toArray n dd sl k t c0 c1 c2) ⟨ho, ?_⟩⟩)
      have e0 : (List.replicate k.toNat xs).flatten = [] := by
        have : k.toNat = 0 := by omega
        rw [this]
        rfl
      refine ⟨.ref s.heap.objs.size, _, I.laid (t' := s.toks) (o := .tup []) (fun b ob q => Heap.get?_push_of_some _ q) (Nat.le_refl _) ?_, rfl, ?_⟩
      · exact ⟨Nat.zero_le _, [], .nil, IsTup.new _ _⟩
      · have := q2 same _ (I.hok.fresh (Nat.le_refl _))
        rw [e0] at this
        exact this
    · have kp : 0 < k := by omega
      have hnat : its.toArray.size * k.toNat ≤ sizeLine := by rw [hsz0]; exact hz
      have hint : ((its.toArray.size : Nat) : Int) * k = ((its.toArray.size * k.toNat : Nat) : Int) := by
        rw [Int.natCast_mul, Int.toNat_of_nonneg (by omega)]
      have sl0 : sizeLine = 16777216 := sizeLine_eq
      have flen : (List.replicate k.toNat its).flatten.length ≤ sizeLine := by
        rw [PyProof.Rows.lm_len_rep_flat, hle, Nat.mul_comm]
        exact hz
      have c2 : (decide (k ≤ 0) || its.toArray.isEmpty) = false := by
        rw [hi, Bool.or_false]
        exact decide_eq_false (by omega)
      have c4 : Builtin.Tuple.tupleTooMany (((its.toArray.size : Nat) : Int) * k) = false := by
        unfold Builtin.Tuple.tupleTooMany
        rw [hint]
        exact decide_eq_false (by omega)
      refine wpAny_binaryOp_repeat_ref (T := "tuple") (U := "int") (by decide) ⟨_, ho, rfl⟩ (fun s' => typeIs_int s' k t) noFill_tuple_mul F.fills_int_mul F.slot_int_rmul repeat_tuple F.slot_int_index.lookup
        (call_meets F.slot_int_rmul (typeIs_int s k t) F.entry_int_rmul (F.args_int_rmul_2 _ _) (int_rmul_tuple k t l its.toArray n dd sl)
          ⟨ho, rfl, ⟨_, ho, rfl⟩, call_meets F.slot_tuple_mul ⟨_, ho, rfl⟩ F.entry_tuple_mul (F.args_tuple_mul_2 _ _) (tuple_mulW l its.toArray n dd sl k t c0 c1 c2 (by rw [hint]; omega) c4 (by rw [size_rep, List.size_toArray]; exact flen)) ⟨ho, ?_⟩⟩)
      rw [size_rep]
      refine ⟨.ref s.heap.objs.size, _, I.laid (t' := s.toks) (o := .tup (List.replicate k.toNat xs).flatten) (fun b ob q => Heap.get?_push_of_some _ q) (Nat.le_refl _) ?_, rfl, q2 same _ (I.hok.fresh (Nat.le_refl _))⟩
      exact ⟨by rw [PyProof.Rows.lm_len_rep_flat, Nat.mul_comm]; exact hz, _, r.rep k.toNat, IsTup.new _ _⟩
end
end L2
end
section
set_option Elab.async false
set_option linter.all false
set_option maxRecDepth 100000
set_option maxHeartbeats 2000000
namespace IP
open PySem L2
/-! ### the operators -/
section
variable {X : Cx} {K : PySem.W.Frag}
theorem relT_int {H0 H : Hp} {v : V} {i : Int} (h : RelT K H0 H v (.int i)) : v = .int i := by
  rcases h with h | ⟨_, _, _, h, _⟩
  · cases h
    rfl
  · cases h
theorem relT_bool {H0 H : Hp} {v : V} {i : Bool} (h : RelT K H0 H v (.bool i)) : v = .bl i := by
  rcases h with h | ⟨_, _, _, h, _⟩
  · cases h
    rfl
  · cases h
theorem relT_list {H0 H : Hp} {v : V} {ds : List D} (s : Sub H0 H) (h : RelT K H0 H v (.list ds)) : ∃ p xs, v = .ref p ∧ H p = some (.lst xs) ∧ RelAll K H0 xs ds := by
  rcases h with h | ⟨_, _, _, e, h⟩
  · cases h with
    | lst h1 h2 => exact ⟨_, _, rfl, s _ _ h1, h2⟩
  · cases e
    exact ⟨_, _, h⟩
theorem relT_tup {H0 H : Hp} {v : V} {ds : List D} (h : RelT K H0 H v (.tuple ds)) : ∃ p xs, v = .ref p ∧ SqT K H0 p xs ∧ RelAll K H0 xs ds := by
  rcases h with h | ⟨_, _, _, e, h⟩
  · cases h with
    | tup h1 h2 => exact ⟨_, _, rfl, h1, h2⟩
  · cases e
theorem relT_scr {H0 H : Hp} {v : V} {xs : List D} (h : RelT K H0 H v (.dict [(.none, .tuple xs)])) : ∃ (p : Addr) (ns : List Int), v = .ref p ∧ SqL K H0 p (ns.map V.int) ∧ xs = ns.map PyData.int := by
  rcases h with h | ⟨_, _, _, e, h⟩
  · generalize e : (PyData.dict [(.none, .tuple xs)]) = d at h
    cases h with
    | scr h1 =>
      unfold IP.scr at e
      injection e with e
      injection e with e _
      injection e with _ e
      injection e with e
      exact ⟨_, _, rfl, h1, e⟩
    | _ => cases e
  · cases e
theorem s_int {op : D → D → Option Res} {C : Int → Int → Prop} {f : Int → Int → Int} (h : ∀ a b res, op a b = some res → ∃ i j, a = .int i ∧ b = .int j ∧ C i j ∧ res = .dat (.int (f i j))) : OpS K (rI C fun i j => .int (f i j)) op := by
  intro G H0 H δ σ x y dx dy res eK R rx ry e Q q
  obtain ⟨i, j, rfl, rfl, c, rfl⟩ := h _ _ _ e
  obtain rfl := relT_int rx
  obtain rfl := relT_int ry
  exact ⟨i, j, rfl, rfl, c, q _ _ _ R (Sub.refl _) (.int _)⟩
theorem s_cmp {op : D → D → Option Res} {f : Int → Int → Bool} (h : ∀ a b res, op a b = some res → ∃ i j, a = .int i ∧ b = .int j ∧ res = .dat (.bool (f i j))) : OpS K (rI0 fun i j => .bl (f i j)) op := by
  intro G H0 H δ σ x y dx dy res eK R rx ry e Q q
  obtain ⟨i, j, rfl, rfl, rfl⟩ := h _ _ _ e
  obtain rfl := relT_int rx
  obtain rfl := relT_int ry
  exact ⟨i, j, rfl, rfl, q _ _ _ R (Sub.refl _) (.bl _)⟩
theorem s_sub : OpS K (rI0 fun i j => .int (i - j)) bSub := by
  intro G H0 H δ σ x y dx dy res eK R rx ry e Q q
  cases dx <;> cases dy <;> simp only [bSub, reduceCtorEq, Option.some.injEq] at e
  subst e
  obtain rfl := relT_int rx
  obtain rfl := relT_int ry
  exact ⟨_, _, rfl, rfl, q _ _ _ R (Sub.refl _) (.int _)⟩
theorem s_lt : OpS K (rI0 fun i j => .bl (decide (i < j))) bLt := s_cmp fun a b res e => by
  cases a <;> cases b <;> simp only [bLt, reduceCtorEq, Option.some.injEq] at e
  exact ⟨_, _, rfl, rfl, e.symm⟩
theorem s_le : OpS K (rI0 fun i j => .bl (decide (i ≤ j))) bLe := s_cmp fun a b res e => by
  cases a <;> cases b <;> simp only [bLe, reduceCtorEq, Option.some.injEq] at e
  exact ⟨_, _, rfl, rfl, e.symm⟩
theorem s_gt : OpS K (rI0 fun i j => .bl (decide (j < i))) bGt := s_cmp fun a b res e => by
  cases a <;> cases b <;> simp only [bGt, reduceCtorEq, Option.some.injEq] at e
  exact ⟨_, _, rfl, rfl, e.symm⟩
theorem s_ge : OpS K (rI0 fun i j => .bl (decide (j ≤ i))) bGe := s_cmp fun a b res e => by
  cases a <;> cases b <;> simp only [bGe, reduceCtorEq, Option.some.injEq] at e
  exact ⟨_, _, rfl, rfl, e.symm⟩
theorem s_mod : OpS K (rI (fun _ j => 0 < j) fun i j => .int (i % j)) bMod := s_int fun a b res e => by
  cases a <;> cases b <;> simp only [bMod, reduceCtorEq, Option.some.injEq] at e
  split at e
  · rename_i h
    cases e
    exact ⟨_, _, rfl, rfl, h, rfl⟩
  · cases e
theorem s_pow : OpS K (rI CPow fun i j => .int (i ^ j.toNat)) bPow := s_int fun a b res e => by
  cases a <;> cases b <;> simp only [bPow, reduceCtorEq, Option.some.injEq] at e
  split at e
  · rename_i h
    cases e
    exact ⟨_, _, rfl, rfl, h, rfl⟩
  · cases e
theorem s_shr : OpS K (rI (fun _ j => 0 ≤ j) fun i j => .int (i / 2 ^ j.toNat)) bShr := s_int fun a b res e => by
  cases a <;> cases b <;> simp only [bShr, reduceCtorEq, Option.some.injEq] at e
  split at e
  · rename_i h
    cases e
    exact ⟨_, _, rfl, rfl, h, rfl⟩
  · cases e
theorem or_cases {r r' : R2} {x y : V} {H : Hp} {Q : VK} (h : r x y H Q ∨ r' x y H Q) : (fun x y H Q => r x y H Q ∨ r' x y H Q : R2) x y H Q := h
abbrev rFdiv : R2 := fun x y H Q => (rI CDiv fun i j => .int (i / j)) x y H Q ∨ (rI CDivW fun i j => .int (i / j)) x y H Q
theorem op_fdivA : OpR X (binaryOp .FloorDiv) rFdiv := op_fdiv.or op_fdivW
theorem s_fdiv : OpS K rFdiv bFdiv := by
  intro G H0 H δ σ x y dx dy res eK R rx ry e Q q
  cases dx <;> cases dy <;> simp only [bFdiv, reduceCtorEq] at e
  split at e
  · rename_i h
    cases e
    obtain rfl := relT_int rx
    obtain rfl := relT_int ry
    rcases h with ⟨h1, h2 | h2⟩
    · exact .inl ⟨_, _, rfl, rfl, ⟨h1, h2⟩, q _ _ _ R (Sub.refl _) (.int _)⟩
    · exact .inr ⟨_, _, rfl, rfl, ⟨h1, h2⟩, q _ _ _ R (Sub.refl _) (.int _)⟩
  · cases e
abbrev rAddA (K : PySem.W.Frag) : R2 := fun x y H Q => (rI0 fun i j => .int (i + j)) x y H Q ∨ (fun x y H Q => rCatA K x y H Q ∨ rCat x y H Q) x y H Q
theorem op_addA : OpR X (binaryOp .Add) (rAddA X.K) := op_add.or (op_catA.or op_cat)
theorem s_add : OpS K (rAddA K) bAdd := by
  intro G H0 H δ σ x y dx dy res eK R rx ry e Q q
  subst eK
  cases dx <;> cases dy <;> simp only [bAdd, reduceCtorEq] at e
  · cases e
    obtain rfl := relT_int rx
    obtain rfl := relT_int ry
    exact .inl ⟨_, _, rfl, rfl, q _ _ _ R (Sub.refl _) (.int _)⟩
  · split at e
    · rename_i h
      cases e
      obtain ⟨p, xs, rfl, h1, h2⟩ := relT_list R.sub rx
      obtain ⟨p', ys, rfl, h3, h4⟩ := relT_list R.sub ry
      refine .inr (.inr ⟨p, p', xs, ys, rfl, rfl, h1, h3, line_le (by rw [h2.length, h4.length]; exact h), fun z hz => ?_⟩)
      have f := R.freshI hz
      exact q _ _ _ (R.laid hz) (Sub.refl _) ⟨z, _, rfl, upd_same, h2.append h4, f.1, f.2.1, f.2.2⟩
    · cases e
  · split at e
    · rename_i h
      cases e
      obtain ⟨p, xs, rfl, h1, h2⟩ := relT_tup rx
      obtain ⟨p', ys, rfl, h3, h4⟩ := relT_tup ry
      refine .inr (.inl ⟨p, p', xs, ys, rfl, rfl, SqT.sub R.sub h1, SqT.sub R.sub h3, line_le (by rw [h2.length, h4.length]; exact h), fun z => ?_, fun _ z => ?_, fun _ _ z hz => ?_⟩)
      · subst z
        refine q _ _ _ R (Sub.refl _) ?_
        cases h2
        exact .tup h3 h4
      · subst z
        refine q _ _ _ R (Sub.refl _) ?_
        cases h4
        show Rel G.K H0 (.ref p) (.tuple (_ ++ []))
        rw [List.append_nil]
        exact .tup h1 h2
      · obtain ⟨R4, s4⟩ := R.laid0 (o := .tup (xs ++ ys)) hz
        exact q _ _ _ R4 s4 (.tup (SqT.of upd_same) ((h2.append h4).sub s4))
    · cases e
abbrev rMulA (K : PySem.W.Frag) : R2 := fun x y H Q => (fun x y H Q => (rI CMul fun i j => .int (i * j)) x y H Q ∨ (rI CMulW fun i j => .int (i * j)) x y H Q) x y H Q ∨ (fun x y H Q => rRep x y H Q ∨ rRepA K x y H Q) x y H Q
theorem op_mulA : OpR X (binaryOp .Mult) (rMulA X.K) := (op_mul.or op_mulW).or (op_rep.or op_repA)
theorem s_mul : OpS K (rMulA K) bMul := by
  intro G H0 H δ σ x y dx dy res eK R rx ry e Q q
  subst eK
  cases dx <;> cases dy <;> simp only [bMul, reduceCtorEq] at e
  · split at e
    · rename_i h
      cases e
      obtain rfl := relT_int rx
      obtain rfl := relT_int ry
      rcases h with h | h
      · exact .inl (.inl ⟨_, _, rfl, rfl, h, q _ _ _ R (Sub.refl _) (.int _)⟩)
      · exact .inl (.inr ⟨_, _, rfl, rfl, h, q _ _ _ R (Sub.refl _) (.int _)⟩)
    · cases e
  · split at e
    · rename_i h
      cases e
      obtain ⟨p, xs, rfl, h1, h2⟩ := relT_list R.sub rx
      obtain rfl := relT_int ry
      refine .inr (.inl ⟨p, _, xs, rfl, rfl, h1, h.1, h.2.1, line_le (by rw [h2.length]; exact h.2.2), fun z hz => ?_⟩)
      have f := R.freshI hz
      exact q _ _ _ (R.laid hz) (Sub.refl _) ⟨z, _, rfl, upd_same, h2.rep _, f.1, f.2.1, f.2.2⟩
    · cases e
  · split at e
    · rename_i h
      cases e
      obtain ⟨p, xs, rfl, h1, h2⟩ := relT_tup rx
      obtain rfl := relT_int ry
      refine .inr (.inr ⟨p, _, xs, rfl, rfl, SqT.sub R.sub h1, h.1, h.2.1, line_le (by rw [h2.length]; exact h.2.2), fun hw => ?_, fun _ z hz => ?_⟩)
      · refine q _ _ _ R (Sub.refl _) ?_
        rcases hw with z | z
        · subst z
          cases h2
          show Rel G.K H0 (.ref p) (.tuple _)
          simp only [List.flatten_replicate_nil]
          exact .tup h1 .nil
        · subst z
          show Rel G.K H0 (.ref p) (.tuple _)
          have e1 : (1 : Int).toNat = 1 := rfl
          rw [e1, List.replicate_one, List.flatten_singleton]
          exact .tup h1 h2
      · obtain ⟨R4, s4⟩ := R.laid0 hz
        exact q _ _ _ R4 s4 (.tup (SqT.of upd_same) ((h2.rep _).sub s4))
    · cases e
/-- equality of data -/
theorem relT_dp {H0 H : Hp} {v : V} {d : D} (s : Sub H0 H) (h : RelT K H0 H v d) (hs : SeqAt.shaped d = true) : Dp K H v d := by
  rcases h with h | ⟨p, xs, ds, rfl, rfl, h1, h2⟩
  · exact (h.sub s).dp hs
  · exact (Rel.lst h1 (h2.sub s)).dp hs
theorem s_eq : OpS K (rEqD K) bEq := by
  intro G H0 H δ σ x y dx dy res eK R rx ry e Q q
  subst eK
  unfold bEq at e
  split at e
  · rename_i h
    cases e
    exact ⟨dx, dy, relT_dp R.sub rx h.1, relT_dp R.sub ry h.2, h.1, h.2, q _ _ _ R (Sub.refl _) (.bl _)⟩
  · cases e
theorem s_ne : OpS K (rNeD K) bNe := by
  intro G H0 H δ σ x y dx dy res eK R rx ry e Q q
  subst eK
  unfold bNe at e
  split at e
  · rename_i h
    cases e
    exact ⟨dx, dy, relT_dp R.sub rx h.1, relT_dp R.sub ry h.2, h.1, h.2, q _ _ _ R (Sub.refl _) (.bl _)⟩
  · cases e
/-- items -/
theorem atD_rel {H0 : Hp} {xs : List V} {ds : List D} {i : Int} {d : D} (r : RelAll K H0 xs ds) (e : atD ds i = some d) : ∃ v, atI xs i = some v ∧ Rel K H0 v d := by
  unfold atD at e
  simp only [Option.bind_eq_some_iff] at e
  obtain ⟨j, e1, e2⟩ := e
  obtain ⟨v, h1, h2⟩ := r.get e2
  refine ⟨v, ?_, h2⟩
  unfold atI
  rw [r.length]
  have e1' : L2.ixN ds.length i = some j := e1
  rw [e1']
  exact h1
abbrev rIxA (K : PySem.W.Frag) : R2 := fun x y H Q => rIxL K x y H Q ∨ rIxT K x y H Q
theorem ix_any : IxR X (rIxA X.K) := ix_list.or ix_tup
theorem s_ix : OpS K (rIxA K) bIx := by
  intro G H0 H δ σ x y dx dy res eK R rx ry e Q q
  subst eK
  have lst : ∀ ds i, dx = .list ds → dy = .int i → (atD ds i).map Res.dat = some res → rIxA G.K x y H Q := by
    rintro ds i rfl rfl e
    simp only [Option.map_eq_some_iff] at e
    obtain ⟨d, e1, rfl⟩ := e
    obtain ⟨p, xs, rfl, h1, h2⟩ := relT_list R.sub rx
    obtain rfl := relT_int ry
    obtain ⟨v, h3, h4⟩ := atD_rel h2 e1
    exact .inl ⟨p, xs, i, v, rfl, rfl, SqL.of h1, h3, q _ _ _ R (Sub.refl _) h4⟩
  have tup : ∀ ds i, dx = .tuple ds → dy = .int i → (atD ds i).map Res.dat = some res → rIxA G.K x y H Q := by
    rintro ds i rfl rfl e
    simp only [Option.map_eq_some_iff] at e
    obtain ⟨d, e1, rfl⟩ := e
    obtain ⟨p, xs, rfl, h1, h2⟩ := relT_tup rx
    obtain rfl := relT_int ry
    obtain ⟨v, h3, h4⟩ := atD_rel h2 e1
    exact .inr ⟨p, xs, i, v, rfl, rfl, SqT.sub R.sub h1, h3, q _ _ _ R (Sub.refl _) h4⟩
  unfold bIx at e
  split at e
  · exact lst _ _ rfl rfl e
  · exact tup _ _ rfl rfl e
  · simp only [Option.map_eq_some_iff] at e
    obtain ⟨d, e1, rfl⟩ := e
    obtain ⟨p, ns, rfl, h1, rfl⟩ := relT_scr rx
    obtain rfl := relT_int ry
    obtain ⟨v, h3, h4⟩ := atD_rel (K := G.K) (H0 := H0) relAll_ints e1
    exact .inl ⟨p, _, _, v, rfl, rfl, SqL.sub R.sub h1, h3, q _ _ _ R (Sub.refl _) h4⟩
  · cases e
theorem s_neg : UnS K (rU fun i => .int (-i)) uNeg := by
  intro G H0 H δ σ x dx res eK R rx e Q q
  cases dx <;> simp only [uNeg, reduceCtorEq, Option.some.injEq] at e
  subst e
  obtain rfl := relT_int rx
  exact ⟨_, rfl, q _ _ _ R (Sub.refl _) (.int _)⟩
/-- is None -/
theorem isNone_eq {H0 H : Hp} {v : V} {d : D} (h : RelT K H0 H v d) : decide (v = .non) = isNone d := by
  rcases h with h | ⟨p, xs, ds, rfl, rfl, _⟩
  · cases h <;> simp [isNone, IP.scr]
  · simp [isNone]
variable {a : Expr} {f : Eo} {pos : Pos}
theorem x_isN {j pos'} (ha : XO X a f) : XV X (.Compare a [.Is] [.Constant .none j pos'] pos) (fUn uIsN f) := (pe_cmp (pc_isN ha)).weak fun σ H Q ⟨G, H0, δ, res, δ', eK, R, e, q⟩ => by
  simp only [fUn, uIsN, Option.bind_eq_some_iff, Option.map_eq_some_iff] at e
  obtain ⟨⟨o1, δ1⟩, e1, dx, e3, r', e5, e6⟩ := e
  cases e5
  cases e6
  refine ⟨G, H0, δ, o1, δ1, eK, R, e1, fun v H0' H' R1 s1 k1 => ?_⟩
  dsimp only
  rw [isNone_eq (R1.rd k1 e3)]
  exact q _ _ _ R1 s1 (.bl _)
theorem x_notN {j pos'} (ha : XO X a f) : XV X (.Compare a [.IsNot] [.Constant .none j pos'] pos) (fUn uNotN f) := (pe_cmp (pc_notN ha)).weak fun σ H Q ⟨G, H0, δ, res, δ', eK, R, e, q⟩ => by
  simp only [fUn, uNotN, Option.bind_eq_some_iff, Option.map_eq_some_iff] at e
  obtain ⟨⟨o1, δ1⟩, e1, dx, e3, r', e5, e6⟩ := e
  cases e5
  cases e6
  refine ⟨G, H0, δ, o1, δ1, eK, R, e1, fun v H0' H' R1 s1 k1 => ?_⟩
  dsimp only
  rw [isNone_eq (R1.rd k1 e3)]
  exact q _ _ _ R1 s1 (.bl _)
/-- a bool as a test, where isTrue goes by the value -/
theorem tB_read {f : Ev} {σ : L2.St} {H : Hp} {Q : Bool → Hp → Prop} (h : kT K (tB f) σ H Q) : L2.tB (kE K f) σ H Q := by
  obtain ⟨G, H0, δ, res, δ', eK, R, e, q⟩ := h
  simp only [IP.tB, Option.bind_eq_some_iff] at e
  obtain ⟨⟨r1, δ1⟩, e1, e2⟩ := e
  refine ⟨G, H0, δ, r1, δ1, eK, R, e1, fun v H0' H' R1 s1 k1 => ?_⟩
  cases r1 with
  | new ds => cases e2
  | dat d =>
    cases d with
    | bool k =>
      cases e2
      cases k1
      exact ⟨_, rfl, q _ _ R1 s1⟩
    | _ => cases e2
theorem x_isNT {j pos'} (ha : XO X a f) : XT X (.Compare a [.Is] [.Constant .none j pos'] pos) (tB (fUn uIsN f)) := (pt_cmp (pc_isN ha)).weak fun σ H Q h => by
  have := tB_read h
  obtain ⟨G, H0, δ, res, δ', eK, R, e, q⟩ := this
  simp only [fUn, uIsN, Option.bind_eq_some_iff, Option.map_eq_some_iff] at e
  obtain ⟨⟨o1, δ1⟩, e1, dx, e3, r', e5, e6⟩ := e
  cases e5
  cases e6
  refine ⟨G, H0, δ, o1, δ1, eK, R, e1, fun v H0' H' R1 s1 k1 => ?_⟩
  dsimp only
  rw [isNone_eq (R1.rd k1 e3)]
  exact q _ _ _ R1 s1 (.bl _)
theorem x_notNT {j pos'} (ha : XO X a f) : XT X (.Compare a [.IsNot] [.Constant .none j pos'] pos) (tB (fUn uNotN f)) := (pt_cmp (pc_notN ha)).weak fun σ H Q h => by
  have := tB_read h
  obtain ⟨G, H0, δ, res, δ', eK, R, e, q⟩ := this
  simp only [fUn, uNotN, Option.bind_eq_some_iff, Option.map_eq_some_iff] at e
  obtain ⟨⟨o1, δ1⟩, e1, dx, e3, r', e5, e6⟩ := e
  cases e5
  cases e6
  refine ⟨G, H0, δ, o1, δ1, eK, R, e1, fun v H0' H' R1 s1 k1 => ?_⟩
  dsimp only
  rw [isNone_eq (R1.rd k1 e3)]
  exact q _ _ _ R1 s1 (.bl _)
theorem x_notV {A : Ev} (ha : XV X a A) : XV X (.UnaryOp .Not a pos) (vNot A) := (pe_not ha).weak fun σ H Q ⟨G, H0, δ, res, δ', eK, R, e, q⟩ => by
  simp only [vNot, Option.bind_eq_some_iff] at e
  obtain ⟨⟨t, δ1⟩, e1, e2⟩ := e
  refine ⟨G, H0, δ, t, δ1, eK, R, e1, fun v H0' H' R1 s1 k1 => ?_⟩
  cases t with
  | new _ => cases e2
  | dat d =>
    cases d with
    | bool t =>
      cases e2
      cases k1
      exact ⟨t, rfl, q _ _ _ R1 s1 (.bl _)⟩
    | _ => cases e2
end
end IP
end
section
set_option Elab.async false
set_option linter.all false
set_option maxRecDepth 100000
set_option maxHeartbeats 400000
namespace IP
open PySem L2
section
variable {X : Cx} {K : PySem.W.Frag} {a : Expr} {f : Eo} {pos : Pos}
/-! ### isinstance -/
def tyS : Ty → String
  | .int => "int"
  | .bool => "bool"
  | .str => "str"
  | .list => "list"
  | .tuple => "tuple"
def tyOfD : D → String
  | .none => "NoneType"
  | .bool _ => "bool"
  | .int _ => "int"
  | .str _ => "str"
  | .list _ => "list"
  | .tuple _ => "tuple"
  | .dict _ => "list"
theorem kB_none_int : kitB "NoneType" "int" = some false := by decide +kernel
theorem kB_none_bool : kitB "NoneType" "bool" = some false := by decide +kernel
theorem kB_none_str : kitB "NoneType" "str" = some false := by decide +kernel
theorem kB_none_list : kitB "NoneType" "list" = some false := by decide +kernel
theorem kB_none_tuple : kitB "NoneType" "tuple" = some false := by decide +kernel
theorem kB_bool_int : kitB "bool" "int" = some true := by decide +kernel
theorem kB_bool_bool : kitB "bool" "bool" = some true := by decide +kernel
theorem kB_bool_str : kitB "bool" "str" = some false := by decide +kernel
theorem kB_bool_list : kitB "bool" "list" = some false := by decide +kernel
theorem kB_bool_tuple : kitB "bool" "tuple" = some false := by decide +kernel
theorem kB_int_int : kitB "int" "int" = some true := by decide +kernel
theorem kB_int_bool : kitB "int" "bool" = some false := by decide +kernel
theorem kB_int_str : kitB "int" "str" = some false := by decide +kernel
theorem kB_int_list : kitB "int" "list" = some false := by decide +kernel
theorem kB_int_tuple : kitB "int" "tuple" = some false := by decide +kernel
theorem kB_str_int : kitB "str" "int" = some false := by decide +kernel
theorem kB_str_bool : kitB "str" "bool" = some false := by decide +kernel
theorem kB_str_str : kitB "str" "str" = some true := by decide +kernel
theorem kB_str_list : kitB "str" "list" = some false := by decide +kernel
theorem kB_str_tuple : kitB "str" "tuple" = some false := by decide +kernel
theorem kB_list_int : kitB "list" "int" = some false := by decide +kernel
theorem kB_list_bool : kitB "list" "bool" = some false := by decide +kernel
theorem kB_list_str : kitB "list" "str" = some false := by decide +kernel
theorem kB_list_list : kitB "list" "list" = some true := by decide +kernel
theorem kB_list_tuple : kitB "list" "tuple" = some false := by decide +kernel
theorem kB_tuple_int : kitB "tuple" "int" = some false := by decide +kernel
theorem kB_tuple_bool : kitB "tuple" "bool" = some false := by decide +kernel
theorem kB_tuple_str : kitB "tuple" "str" = some false := by decide +kernel
theorem kB_tuple_list : kitB "tuple" "list" = some false := by decide +kernel
theorem kB_tuple_tuple : kitB "tuple" "tuple" = some true := by decide +kernel
theorem kit_d : ∀ {t : Ty} {d : D} {b : Bool}, isTy t d = some b → kitB (tyOfD d) (tyS t) = some b
  | .int, .none, b, e => by
    cases e
    exact kB_none_int
  | .bool, .none, b, e => by
    cases e
    exact kB_none_bool
  | .str, .none, b, e => by
    cases e
    exact kB_none_str
  | .list, .none, b, e => by
    cases e
    exact kB_none_list
  | .tuple, .none, b, e => by
    cases e
    exact kB_none_tuple
  | .int, .bool _, b, e => by
    cases e
    exact kB_bool_int
  | .bool, .bool _, b, e => by
    cases e
    exact kB_bool_bool
  | .str, .bool _, b, e => by
    cases e
    exact kB_bool_str
  | .list, .bool _, b, e => by
    cases e
    exact kB_bool_list
  | .tuple, .bool _, b, e => by
    cases e
    exact kB_bool_tuple
  | .int, .int _, b, e => by
    cases e
    exact kB_int_int
  | .bool, .int _, b, e => by
    cases e
    exact kB_int_bool
  | .str, .int _, b, e => by
    cases e
    exact kB_int_str
  | .list, .int _, b, e => by
    cases e
    exact kB_int_list
  | .tuple, .int _, b, e => by
    cases e
    exact kB_int_tuple
  | .int, .str _, b, e => by
    cases e
    exact kB_str_int
  | .bool, .str _, b, e => by
    cases e
    exact kB_str_bool
  | .str, .str _, b, e => by
    cases e
    exact kB_str_str
  | .list, .str _, b, e => by
    cases e
    exact kB_str_list
  | .tuple, .str _, b, e => by
    cases e
    exact kB_str_tuple
  | .int, .list _, b, e => by
    cases e
    exact kB_list_int
  | .bool, .list _, b, e => by
    cases e
    exact kB_list_bool
  | .str, .list _, b, e => by
    cases e
    exact kB_list_str
  | .list, .list _, b, e => by
    cases e
    exact kB_list_list
  | .tuple, .list _, b, e => by
    cases e
    exact kB_list_tuple
  | .int, .tuple _, b, e => by
    cases e
    exact kB_tuple_int
  | .bool, .tuple _, b, e => by
    cases e
    exact kB_tuple_bool
  | .str, .tuple _, b, e => by
    cases e
    exact kB_tuple_str
  | .list, .tuple _, b, e => by
    cases e
    exact kB_tuple_list
  | .tuple, .tuple _, b, e => by
    cases e
    exact kB_tuple_tuple
  | .int, .dict _, b, e => by cases e
  | .bool, .dict _, b, e => by cases e
  | .str, .dict _, b, e => by cases e
  | .list, .dict _, b, e => by cases e
  | .tuple, .dict _, b, e => by cases e
theorem tyx_d {H0 H : Hp} {v : V} {d : D} (s : Sub H0 H) (h : RelT K H0 H v d) (hd : ∀ kvs, d ≠ .dict kvs) : TyX K H v (.type (tyOfD d)) := by
  rcases h with h | ⟨p, xs, ds, rfl, rfl, h1, _⟩
  · cases h with
    | non => exact .base .non
    | bl b => exact .base (.bl b)
    | int i => exact .base (.int i)
    | str x => exact .base (.str x)
    | lst h1 h2 => exact .base (.lst (s _ _ h1))
    | tup h1 h2 =>
      rcases h1 with (h1 | ⟨o, h1⟩) | ⟨o, its, n, h1, h3, _⟩
      · exact .base (.tup (s _ _ h1))
      · exact .fTuple (s _ _ h1)
      · exact .kTuple h1 h3
    | scr _ => exact absurd rfl (hd _)
  · exact .base (.lst h1)
theorem isAny_kit {ts : List Ty} {d : D} {b : Bool} (e : isAny ts d = some b) : PySem.W.kitAny K (.type (tyOfD d)) (ts.map fun t => .type (tyS t)) = some b := by
  induction ts with
  | nil =>
    cases e
    exact kitAny_nil
  | cons t ts ih =>
    simp only [isAny, Option.bind_eq_some_iff] at e
    obtain ⟨c, e1, e2⟩ := e
    refine kitAny_cons (kit_ty (kit_d e1)) (fun h => ?_) (fun h => ?_)
    · subst h
      exact ih (by simpa using e2)
    · subst h
      simp only [if_true, Option.some.injEq] at e2
      exact e2.symm
theorem isAny_nodict {ts : List Ty} {d : D} {b : Bool} (hn : ts ≠ []) (e : isAny ts d = some b) : ∀ kvs, d ≠ .dict kvs := by
  intro kvs h
  subst h
  cases ts with
  | nil => exact hn rfl
  | cons t ts => cases t <;> simp [isAny, isTy] at e
/-- the classes of a tuple of classes -/
def kTys (ts : List Ty) : TA := fun _ H Q => Q (ts.map fun t => V.ty (tyS t)) H
theorem xty_nil : PA X [] (kTys []) := pa_nil
theorem xty_cons {t : Ty} {ts : List Ty} {x : Str} {p : Pos} {es : List Expr} (hg : Gl X x) (hm : X.mg x = none) (hv : bootBuiltins x = some (.type (tyS t))) (ht : PA X es (kTys ts)) (hn : x ≠ "__name__" := by decide) (hdb : (x == ("__debug__" : Str)) = false := by decide)
    (hs : starEach (.Name x p :: es) X.env = (false, eval (.Name x p) X.env) :: starEach es X.env := by rfl) : PA X (.Name x p :: es) (kTys (t :: ts)) := (pa_cons (pe_bltn (v := .ty (tyS t)) hg hm hv rfl hn hdb) ht hs).weak fun _ _ _ h => h
theorem cls_all (ts : List Ty) : Paired ClsV (ts.map fun t => V.ty (tyS t)) (ts.map fun t => Value.type (tyS t)) := by
  induction ts with
  | nil => exact .nil
  | cons t ts ih => exact .cons (.ty _) ih
theorem x_isi1 {t : Ty} {x : Str} {p p2 : Pos} (ha : XO X a f) (hgi : Gl X "isinstance") (hmi : X.mg "isinstance" = none) (hbi : bootBuiltins "isinstance" = some (.builtin "isinstance")) (hg : Gl X x) (hm : X.mg x = none) (hv : bootBuiltins x = some (.type (tyS t))) (hn : x ≠ "__name__" := by decide) (hdb : (x == ("__debug__" : Str)) = false := by decide)
    (h1 : starEach [a, .Name x p] X.env = (false, eval a X.env) :: starEach [.Name x p] X.env := by rfl) (h2 : (backTo pos (starEach [.Name x p] X.env)).any (·.1) = false := by rfl) (h3 : starEach [.Name x p] X.env = (false, eval (.Name x p) X.env) :: starEach [] X.env := by rfl) :
    XV X (.Call (.Name "isinstance" p2) [a, .Name x p] [] pos) (fUn (uIs [t]) f) :=
  (pe_callB call_isi hgi hmi hbi (pa_cons ha (pa_cons (pe_bltn (v := .ty (tyS t)) hg hm hv rfl hn hdb) pa_nil h3) h1) (by decide) (by decide) h1 h2).weak fun σ H Q ⟨G, H0, δ, res, δ', eK, R, e, q⟩ => by
    simp only [fUn, uIs, Option.bind_eq_some_iff, Option.map_eq_some_iff] at e
    obtain ⟨⟨o1, δ1⟩, e1, dx, e3, r', ⟨b, e5, e5'⟩, e6⟩ := e
    cases e5'
    cases e6
    refine ⟨G, H0, δ, o1, δ1, eK, R, e1, fun v H0' H' R1 s1 k1 => ?_⟩
    rw [← eK]
    have rt := R1.rd k1 e3
    have nd := isAny_nodict (by simp) e5
    simp only [isAny, Option.bind_eq_some_iff] at e5
    obtain ⟨c, e7, e8⟩ := e5
    have : c = b := by
      cases c
      · simpa using e8
      · simpa using e8
    subst this
    exact ⟨v, .ty (tyS t), _, _, c, rfl, .ty _, tyx_d R1.sub rt nd, kit_ty (kit_d e7), q _ _ _ R1 s1 (.bl _)⟩
theorem x_isiT {ts : List Ty} {es : List Expr} {j : Nat} {p p2 : Pos} (hne : ts ≠ []) (hlen : ts.length ≤ 100) (ha : XO X a f) (hgi : Gl X "isinstance") (hmi : X.mg "isinstance" = none) (hbi : bootBuiltins "isinstance" = some (.builtin "isinstance")) (ht : PA X es (kTys ts))
    (h1 : starEach [a, .Tuple es j p] X.env = (false, eval a X.env) :: starEach [.Tuple es j p] X.env := by rfl) (h2 : (backTo pos (starEach [.Tuple es j p] X.env)).any (·.1) = false := by rfl) (h3 : starEach [.Tuple es j p] X.env = (false, eval (.Tuple es j p) X.env) :: starEach [] X.env := by rfl) :
    XV X (.Call (.Name "isinstance" p2) [a, .Tuple es j p] [] pos) (fUn (uIs ts) f) :=
  (pe_callB call_isiT hgi hmi hbi (pa_cons ha (pa_cons (pe_tup ht) pa_nil h3) h1) (by decide) (by decide) h1 h2).weak fun σ H Q ⟨G, H0, δ, res, δ', eK, R, e, q⟩ => by
    simp only [fUn, uIs, Option.bind_eq_some_iff, Option.map_eq_some_iff] at e
    obtain ⟨⟨o1, δ1⟩, e1, dx, e3, r', ⟨b, e5, e5'⟩, e6⟩ := e
    cases e5'
    cases e6
    refine ⟨G, H0, δ, o1, δ1, eK, R, e1, fun v H0' H' R1 s1 k1 => ?_⟩
    rw [← eK]
    have rt := R1.rd k1 e3
    have nd := isAny_nodict hne e5
    refine ⟨Nat.le_trans (by rw [List.length_map]; exact hlen) (by rw [sizeLine_eq]; decide), fun z hz => ?_⟩
    refine ⟨v, z, _, _, _, b, rfl, upd_same, cls_all ts, tyx_d (R1.laid hz).sub (by
      rcases rt with rt | ⟨p', xs, ds, e1, e2, e3, e4⟩
      · exact .inl rt
      · exact .inr ⟨p', xs, ds, e1, e2, Sub.new hz _ _ e3, e4⟩) nd, isAny_kit e5, q _ _ _ (R1.laid hz) s1 (.bl _)⟩
end
end IP
end
section
set_option Elab.async false
set_option linter.all false
set_option maxRecDepth 100000
set_option maxHeartbeats 400000
namespace IP
open PySem L2
section
variable {X : Cx} {K : PySem.W.Frag}
/-! ### builtins -/
theorem one {H0 H : Hp} {vs : List V} {d : D} (h : RelTAll K H0 H vs [d]) : ∃ v, vs = [v] ∧ RelT K H0 H v d := by
  cases h with
  | cons h t =>
    cases t
    exact ⟨_, rfl, h⟩
theorem two {H0 H : Hp} {vs : List V} {d e : D} (h : RelTAll K H0 H vs [d, e]) : ∃ v w, vs = [v, w] ∧ RelT K H0 H v d ∧ RelT K H0 H w e := by
  cases h with
  | cons h t =>
    obtain ⟨w, rfl, h2⟩ := one t
    exact ⟨_, _, rfl, h, h2⟩
abbrev rLenQ (K : PySem.W.Frag) : List V → Hp → VK → Prop := fun xs H Q => ∃ p ys, xs = [.ref p] ∧ (SqL K H p ys ∨ SqT K H p ys) ∧ Q (.int ys.length) H
theorem s_len : BiS K (rLenQ K) biLen := by
  intro G H0 H δ σ vs ds res eK R r e Q q
  subst eK
  unfold biLen at e
  split at e
  · cases e
    obtain ⟨v, rfl, h⟩ := one r
    obtain ⟨p, xs, rfl, h1, h2⟩ := relT_list R.sub h
    exact ⟨p, xs, rfl, .inl (SqL.of h1), q _ _ _ R (Sub.refl _) (by rw [h2.length]; exact .int _)⟩
  · cases e
    obtain ⟨v, rfl, h⟩ := one r
    obtain ⟨p, xs, rfl, h1, h2⟩ := relT_tup h
    exact ⟨p, xs, rfl, .inr (SqT.sub R.sub h1), q _ _ _ R (Sub.refl _) (by rw [h2.length]; exact .int _)⟩
  · cases e
    obtain ⟨v, rfl, h⟩ := one r
    obtain ⟨p, ns, rfl, h1, rfl⟩ := relT_scr h
    refine ⟨p, _, rfl, .inl (SqL.sub R.sub h1), q _ _ _ R (Sub.refl _) ?_⟩
    rw [List.length_map, List.length_map]
    exact .int _
  · cases e
abbrev rInt1 : List V → Hp → VK → Prop := fun xs H Q => (∃ i, xs = [.int i] ∧ Q (.int i) H) ∨ ∃ k, xs = [.bl k] ∧ Q (.int (if k then 1 else 0)) H
theorem s_int1 : BiS K rInt1 biInt := by
  intro G H0 H δ σ vs ds res eK R r e Q q
  unfold biInt at e
  split at e
  · cases e
    obtain ⟨v, rfl, h⟩ := one r
    obtain rfl := relT_int h
    exact .inl ⟨_, rfl, q _ _ _ R (Sub.refl _) (.int _)⟩
  · cases e
    obtain ⟨v, rfl, h⟩ := one r
    obtain rfl := relT_bool h
    exact .inr ⟨_, rfl, q _ _ _ R (Sub.refl _) (.int _)⟩
  · cases e
abbrev rTupO (K : PySem.W.Frag) : List V → Hp → VK → Prop := fun xs H Q => ∃ p ys, xs = [.ref p] ∧ ((SqL K H p ys ∧ ∀ l, H l = none → Q (.ref l) (upd H l (.tup ys))) ∨ (SqT K H p ys ∧ Q (.ref p) H))
theorem s_tupO : BiS K (rTupO K) biTuple := by
  intro G H0 H δ σ vs ds res eK R r e Q q
  subst eK
  unfold biTuple at e
  split at e
  · cases e
    obtain ⟨v, rfl, h⟩ := one r
    obtain ⟨p, xs, rfl, h1, h2⟩ := relT_list R.sub h
    refine ⟨p, xs, rfl, .inl ⟨SqL.of h1, fun z hz => ?_⟩⟩
    obtain ⟨R4, s4⟩ := R.laid0 (o := .tup xs) hz
    exact q _ _ _ R4 s4 (.tup (SqT.of upd_same) (h2.sub s4))
  · cases e
    obtain ⟨v, rfl, h⟩ := one r
    obtain ⟨p, xs, rfl, h1, h2⟩ := relT_tup h
    exact ⟨p, xs, rfl, .inr ⟨SqT.sub R.sub h1, q _ _ _ R (Sub.refl _) (.tup h1 h2)⟩⟩
  · cases e
abbrev rLstO (K : PySem.W.Frag) : List V → Hp → VK → Prop := fun xs H Q => ∃ p ys, xs = [.ref p] ∧ (SqL K H p ys ∨ SqT K H p ys) ∧ ∀ l, H l = none → Q (.ref l) (upd H l (.lst ys))
theorem s_lstO : BiS K (rLstO K) biList := by
  intro G H0 H δ σ vs ds res eK R r e Q q
  subst eK
  have fin : ∀ xs es, RelAll G.K H0 xs es → res = .new es → ∀ l, H l = none → Q (.ref l) (upd H l (.lst xs)) := by
    rintro xs es h2 rfl z hz
    have f := R.freshI hz
    exact q _ _ _ (R.laid hz) (Sub.refl _) ⟨z, _, rfl, upd_same, h2, f.1, f.2.1, f.2.2⟩
  unfold biList at e
  split at e
  · cases e
    obtain ⟨v, rfl, h⟩ := one r
    obtain ⟨p, xs, rfl, h1, h2⟩ := relT_list R.sub h
    exact ⟨p, xs, rfl, .inl (SqL.of h1), fin _ _ h2 rfl⟩
  · cases e
    obtain ⟨v, rfl, h⟩ := one r
    obtain ⟨p, xs, rfl, h1, h2⟩ := relT_tup h
    exact ⟨p, xs, rfl, .inr (SqT.sub R.sub h1), fin _ _ h2 rfl⟩
  · cases e
theorem s_sum : BiS K (rSum K) biSum := by
  intro G H0 H δ σ vs ds res eK R r e Q q
  subst eK
  unfold biSum at e
  split at e
  · simp only [Option.map_eq_some_iff] at e
    obtain ⟨is, e1, rfl⟩ := e
    obtain ⟨v, rfl, h⟩ := one r
    obtain ⟨p, xs, rfl, h1, h2⟩ := relT_list R.sub h
    obtain rfl := h2.ints e1
    exact ⟨p, is, rfl, SqL.of h1, q _ _ _ R (Sub.refl _) (.int _)⟩
  · cases e
theorem s_all : BiS K (rAll K) biAll := by
  intro G H0 H δ σ vs ds res eK R r e Q q
  subst eK
  unfold biAll at e
  split at e
  · simp only [Option.map_eq_some_iff] at e
    obtain ⟨is, e1, rfl⟩ := e
    obtain ⟨v, rfl, h⟩ := one r
    obtain ⟨p, xs, rfl, h1, h2⟩ := relT_list R.sub h
    obtain rfl := h2.bools e1
    exact ⟨p, is, rfl, SqL.of h1, q _ _ _ R (Sub.refl _) (.bl _)⟩
  · cases e
theorem s_any : BiS K (rAny K) biAny := by
  intro G H0 H δ σ vs ds res eK R r e Q q
  subst eK
  unfold biAny at e
  split at e
  · simp only [Option.map_eq_some_iff] at e
    obtain ⟨is, e1, rfl⟩ := e
    obtain ⟨v, rfl, h⟩ := one r
    obtain ⟨p, xs, rfl, h1, h2⟩ := relT_list R.sub h
    obtain rfl := h2.bools e1
    exact ⟨p, is, rfl, SqL.of h1, q _ _ _ R (Sub.refl _) (.bl _)⟩
  · cases e
abbrev rMax2Q : List V → Hp → VK → Prop := fun xs H Q => ∃ i j, xs = [.int i, .int j] ∧ Q (.int (if j > i then j else i)) H
abbrev rMin2Q : List V → Hp → VK → Prop := fun xs H Q => ∃ i j, xs = [.int i, .int j] ∧ Q (.int (if j < i then j else i)) H
theorem s_max2 : BiS K rMax2Q biMax := by
  intro G H0 H δ σ vs ds res eK R r e Q q
  unfold biMax at e
  split at e
  · cases e
    obtain ⟨v, w, rfl, h, h'⟩ := two r
    obtain rfl := relT_int h
    obtain rfl := relT_int h'
    exact ⟨_, _, rfl, q _ _ _ R (Sub.refl _) (.int _)⟩
  · cases e
theorem s_min2 : BiS K rMin2Q biMin := by
  intro G H0 H δ σ vs ds res eK R r e Q q
  unfold biMin at e
  split at e
  · cases e
    obtain ⟨v, w, rfl, h, h'⟩ := two r
    obtain rfl := relT_int h
    obtain rfl := relT_int h'
    exact ⟨_, _, rfl, q _ _ _ R (Sub.refl _) (.int _)⟩
  · cases e

/-! ### a def keeps its promise -/
theorem fn_read {F : Fn} {N : List Str} {vs : List V} {H : Hp} {Q : VK} {E : XK} (hN : N.length = F.names) (hle : F.nps ≤ F.names) (h : spI K F.run vs H Q E) : kS K F.body { nx := fun _ H' => Q .non H', rt := Q } (L2.start N vs) H := by
  obtain ⟨H0, ds, r, s0, h⟩ := h
  have sn : ∀ (i : Nat) (v : V), vs[i]? = some v → (L2.start N vs)[i]? = some (some v) := fun i v e => by
    unfold L2.start
    have hl : i < vs.length := (List.getElem?_eq_some_iff.mp e).1
    rw [List.getElem?_append_left (by rw [List.length_map]; exact hl), List.getElem?_map, e]
    rfl
  rcases h with ⟨ra, e, q⟩ | ⟨p, xs, xds, yds, ws, rfl, ra, hp, rx, hp0, e, q⟩
  · simp only [Fn.run] at e
    split at e
    · rename_i hb hr
      cases hr
    · rename_i hb hr
      split at e
      · rename_i hlen
        simp only [Option.bind_eq_some_iff] at e
        obtain ⟨δ0, e0, ⟨o, δ1⟩, e1, r', e2, e3⟩ := e
        cases e0
        let G : Gx := ⟨K, H, H0, [], []⟩
        have hvl : vs.length = ds.length := ra.length
        have dl : ∀ (i : Nat) (s : Slot), (ds.map Slot.dat ++ List.replicate (F.names - F.nps) .un)[i]? = some s → s = .un ∨ ∃ d, s = .dat d ∧ ds[i]? = some d := fun i s e => by
          by_cases hi : i < ds.length
          · rw [List.getElem?_append_left (by rw [List.length_map]; exact hi), List.getElem?_map] at e
            simp only [Option.map_eq_some_iff] at e
            obtain ⟨d, h1, h2⟩ := e
            exact .inr ⟨d, h2.symm, h1⟩
          · rw [List.getElem?_append_right (by rw [List.length_map]; omega)] at e
            exact .inl (List.eq_of_mem_replicate (List.mem_of_getElem? e))
        have R : Rl G H0 H (ds.map Slot.dat ++ List.replicate (F.names - F.nps) .un) (L2.start N vs) := by
          refine ⟨?_, s0, Sub.refl _, fun a o e _ _ => e, fun a o e => .inl ⟨o, e⟩, fun i s es => ?_, fun i j p hi _ => ?_, (fun z hz => nomatch hz), (fun z hz => nomatch hz)⟩
          · unfold L2.start
            rw [List.length_append, List.length_append, List.length_map, List.length_map, List.length_replicate, List.length_replicate]
            omega
          · rcases dl i s es with rfl | ⟨d, rfl, h1⟩
            · trivial
            · obtain ⟨v, h2, h3⟩ := ra.get h1
              exact ⟨v, sn i v h2, h3⟩
          · obtain ⟨s, h1, h2, _⟩ := hi
            rcases dl i s h1 with rfl | ⟨d, rfl, _⟩ <;> cases h2
        refine ⟨G, H0, _, o, δ1, rfl, R, e1, fun τ A H1 R1 s1 => ?_⟩
        have fin : ∀ v, RetOk K H A H1 r' v → r' = r → Q v H1 := fun v k er => by
          subst er
          exact q v A H1 s1 R1.sub (fun a o e => R1.keep a o e (fun z hz => nomatch hz) (fun z => nomatch z)) R1.fro k
        have er : r' = r := by
          dsimp only at e3
          split at e3
          · rename_i hb' _
            rw [hb] at hb'
            cases hb'
          · cases e3
            rfl
          · cases e3
        cases o with
        | nx =>
          cases e2
          exact fin .non .non er
        | rt r0 =>
          cases e2
          intro v k
          refine fin v ?_ er
          cases r' with
          | dat d => exact k
          | new es =>
            obtain ⟨z, us, y1, y2, y3, y4, y5, _⟩ := k
            exact ⟨z, us, y1, y2, y3, y4, y5⟩
        | bk => cases e2
        | ro _ => cases e2
        | ct => cases e2
      · cases e
    · cases e
  · simp only [Fn.run] at e
    split at e
    · rename_i xs' hb hr
      cases hr
      split at e
      · rename_i hlen
        simp only [Option.bind_eq_some_iff] at e
        obtain ⟨δ0, e0, ⟨o, δ1⟩, e1, r', e2, e3⟩ := e
        cases e0
        let G : Gx := ⟨K, H, H0, [(0, p)], []⟩
        have hvl : ws.length = ds.length := ra.length
        have dl : ∀ (i : Nat) (s : Slot), (ds.map Slot.dat ++ List.replicate (F.names - F.nps) .un)[i]? = some s → s = .un ∨ ∃ d, s = .dat d ∧ ds[i]? = some d := fun i s e => by
          by_cases hi : i < ds.length
          · rw [List.getElem?_append_left (by rw [List.length_map]; exact hi), List.getElem?_map] at e
            simp only [Option.map_eq_some_iff] at e
            obtain ⟨d, h1, h2⟩ := e
            exact .inr ⟨d, h2.symm, h1⟩
          · rw [List.getElem?_append_right (by rw [List.length_map]; omega)] at e
            exact .inl (List.eq_of_mem_replicate (List.mem_of_getElem? e))
        have R : Rl G H0 H (Slot.prm xds :: (ds.map Slot.dat ++ List.replicate (F.names - F.nps) .un)) (L2.start N (.ref p :: ws)) := by
          refine ⟨?_, s0, Sub.refl _, fun a o e _ _ => e, fun a o e => .inl ⟨o, e⟩, fun i s es => ?_, fun i j p' hi hj => ?_, fun z hz => ?_, fun z hz => nomatch hz⟩
          · unfold L2.start
            simp only [List.length_append, List.length_cons, List.length_map, List.length_replicate]
            omega
          · cases i with
            | zero =>
              cases es
              exact ⟨p, xs, sn 0 _ rfl, List.mem_singleton.mpr rfl, hp, rx, hp0⟩
            | succ i =>
              rw [List.getElem?_cons_succ] at es
              rcases dl i s es with rfl | ⟨d, rfl, h1⟩
              · trivial
              · obtain ⟨v, h2, h3⟩ := ra.get h1
                exact ⟨v, sn (i + 1) v (by rw [List.getElem?_cons_succ]; exact h2), h3⟩
          · have zero : ∀ i, Holds H (Slot.prm xds :: (ds.map Slot.dat ++ List.replicate (F.names - F.nps) .un)) (L2.start N (.ref p :: ws)) i p' → i = 0 := fun i ⟨s, h1, h2, _⟩ => by
              cases i with
              | zero => rfl
              | succ i =>
                rw [List.getElem?_cons_succ] at h1
                rcases dl i s h1 with rfl | ⟨d, rfl, _⟩ <;> cases h2
            rw [zero i hi, zero j hj]
          · obtain rfl := List.mem_singleton.mp hz
            exact ⟨.prm xds, rfl, rfl, sn 0 _ rfl⟩
        refine ⟨G, H0, _, o, δ1, rfl, R, e1, fun τ A H1 R1 s1 => ?_⟩
        dsimp only at e3
        split at e3
        · rename_i ys hb' hpr
          cases e3
          obtain ⟨es, z1, _, z2⟩ := R1.prs (0, p) (List.mem_singleton.mpr rfl)
          obtain ⟨p', us, w1, w0, w2, w3, w4⟩ := R1.slot 0 _ hpr
          rw [z2] at w1
          cases w1
          have fin : ∀ v, RetOk K H A H1 r v → Q v H1 := fun v k =>
            q v A H1 us s1 R1.sub (fun a o e ha => R1.keep a o e (fun z hz => by
              obtain rfl := List.mem_singleton.mp hz
              exact fun h => ha h.symm) (fun z => nomatch z)) R1.fro w2 w3 w4 k
          cases o with
          | nx =>
            cases e2
            exact fin .non .non
          | rt r0 =>
            cases e2
            intro v k
            refine fin v ?_
            cases r with
            | dat d => exact k
            | new es =>
              obtain ⟨z, us, y1, y2, y3, y4, y5, _⟩ := k
              exact ⟨z, us, y1, y2, y3, y4, y5⟩
          | bk => cases e2
          | ro _ => cases e2
          | ct => cases e2
        · cases e3
        · cases e3
      · cases e
    · rename_i hb hr
      cases hr
    · cases e
theorem spI_len {F : Fn} {ps : List Str} (hl : ps.length = F.nps) {vs : List V} {H : Hp} {Q : VK} {E : XK} (h : spI K F.run vs H Q E) : vs.length = ps.length := by
  obtain ⟨H0, ds, r, s0, h⟩ := h
  rw [hl]
  rcases h with ⟨ra, e, q⟩ | ⟨p, xs, xds, yds, ws, rfl, ra, hp, rx, hp0, e, q⟩
  · simp only [Fn.run] at e
    split at e
    · rename_i hb hr
      cases hr
    · split at e
      · rename_i h
        rw [ra.length, h]
      · cases e
    · cases e
  · simp only [Fn.run] at e
    split at e
    · split at e
      · rename_i h
        rw [List.length_cons, ra.length, h]
      · cases e
    · rename_i hb hr
      cases hr
    · cases e
end
end IP
end
section
set_option Elab.async false
set_option linter.all false
set_option maxRecDepth 100000
set_option maxHeartbeats 400000
namespace IP
open PySem L2
section
variable {X : Cx} {K : PySem.W.Frag} {a b c : Expr} {f g h : Eo} {pos : Pos}
theorem flat_ints (is : List Int) : (is.map V.int).all flatV = true := by
  induction is with
  | nil => rfl
  | cons i is ih => rw [List.map_cons, List.all_cons, ih] <;> rfl
theorem in_ints (i : Int) (is : List Int) : inV (.int i) (is.map V.int) = decide (i ∈ is) := by
  unfold inV
  induction is with
  | nil => rfl
  | cons j is ih =>
    rw [List.map_cons, List.any_cons, ih]
    by_cases h : j = i
    · subst h
      have : eqV (.int j) (.int j) = true := by simp [eqV]
      rw [this]
      simp
    · have : eqV (.int j) (.int i) = false := by simp [eqV, h]
      rw [this, Bool.false_or]
      have h' : ¬ i = j := fun e => h e.symm
      simp [h']
theorem s_in : OpS K (rIn K false) bIn := by
  intro G H0 H δ σ x y dx dy res eK R rx ry e Q q
  subst eK
  unfold bIn at e
  split at e
  · simp only [Option.map_eq_some_iff] at e
    obtain ⟨is, e1, rfl⟩ := e
    obtain rfl := relT_int rx
    obtain ⟨p, xs, rfl, h1, h2⟩ := relT_list R.sub ry
    obtain rfl := h2.ints e1
    refine ⟨p, _, rfl, .inl (SqL.of h1), rfl, flat_ints _, ?_⟩
    rw [if_neg Bool.false_ne_true, in_ints]
    exact q _ _ _ R (Sub.refl _) (.bl _)
  · simp only [Option.map_eq_some_iff] at e
    obtain ⟨is, e1, rfl⟩ := e
    obtain rfl := relT_int rx
    obtain ⟨p, xs, rfl, h1, h2⟩ := relT_tup ry
    obtain rfl := h2.ints e1
    refine ⟨p, _, rfl, .inr (SqT.sub R.sub h1), rfl, flat_ints _, ?_⟩
    rw [if_neg Bool.false_ne_true, in_ints]
    exact q _ _ _ R (Sub.refl _) (.bl _)
  · cases e
theorem s_notIn : OpS K (rIn K true) bNotIn := by
  intro G H0 H δ σ x y dx dy res eK R rx ry e Q q
  subst eK
  unfold bNotIn at e
  split at e
  · simp only [Option.map_eq_some_iff] at e
    obtain ⟨is, e1, rfl⟩ := e
    obtain rfl := relT_int rx
    obtain ⟨p, xs, rfl, h1, h2⟩ := relT_list R.sub ry
    obtain rfl := h2.ints e1
    refine ⟨p, _, rfl, .inl (SqL.of h1), rfl, flat_ints _, ?_⟩
    rw [if_pos rfl, in_ints]
    exact q _ _ _ R (Sub.refl _) (.bl _)
  · simp only [Option.map_eq_some_iff] at e
    obtain ⟨is, e1, rfl⟩ := e
    obtain rfl := relT_int rx
    obtain ⟨p, xs, rfl, h1, h2⟩ := relT_tup ry
    obtain rfl := h2.ints e1
    refine ⟨p, _, rfl, .inr (SqT.sub R.sub h1), rfl, flat_ints _, ?_⟩
    rw [if_pos rfl, in_ints]
    exact q _ _ _ R (Sub.refl _) (.bl _)
  · cases e
/-- constants of the module -/
theorem x_globI {x : Str} {i : Int} (hg : Gl X x) (hm : ∃ t, X.mg x = some (.int i t)) (hdb : (x == ("__debug__" : Str)) = false := by decide) : XV X (.Name x pos) (vC (.int i)) := by
  obtain ⟨t, e⟩ := hm
  exact x_glob hg e (v := .int i) ⟨t, rfl⟩ (fun _ => .int i) hdb
theorem x_globT {x : Str} {is : List Int} {p : Addr} (hg : Gl X x) (hm : X.mg x = some (.ref p)) (ht : ∀ H, SqT X.K H p (is.map V.int)) (hdb : (x == ("__debug__" : Str)) = false := by decide) : XV X (.Name x pos) (vC (.tuple (is.map .int))) :=
  x_glob hg hm (v := .ref p) rfl (fun H => .tup (ht H) relAll_ints) hdb
/-- a chain as a test -/
theorem x_chainT {o1 o2 : CmpOp} {r1 r2 : R2} {p1 p2 : D → D → Option Res} (h1 : OpR X (compareOp o1) r1) (h2 : OpR X (compareOp o2) r2) (s1 : OpS X.K r1 p1) (s2 : OpS X.K r2 p2) (ha : XO X a f) (hb : XO X b g) (hc : XO X c h)
    (hm : lastMarks [o1, o2] [b, c] = false := by with_unfolding_all rfl) : XT X (.Compare a [o1, o2] [b, c] pos) (tB (vChain p1 p2 f g h)) :=
  (pt_chain h1 h2 ha hb hc hm).weak fun σ H Q ⟨G, H0, δ, res, δ', eK, R, e, q⟩ => by
    simp only [IP.tB, Option.bind_eq_some_iff] at e
    obtain ⟨⟨r, δ1⟩, e0, e00⟩ := e
    simp only [vChain, Option.bind_eq_some_iff] at e0
    obtain ⟨⟨o1, δ1'⟩, e1, ⟨o2, δ2⟩, e2, dx, e3, dy, e4, r', e5, e6⟩ := e0
    refine ⟨G, H0, δ, o1, δ1', eK, R, e1, fun v H0' H' R1 s1' k1 => ?_⟩
    refine ⟨G, H0', δ1', o2, δ2, eK, R1, e2, fun w H0'' H'' R2 s2' k2 => ?_⟩
    refine s1 G H0'' H'' δ2 σ v w dx dy r' eK R2 (R2.rd (k1.sub s2') e3) (R2.rd k2 e4) e5 _ fun z A B R3 s3 k3 => ?_
    cases r' with
    | new _ => cases e6
    | dat d =>
      cases d with
      | bool t =>
        cases k3
        cases t with
        | false =>
          cases e6
          cases e00
          exact ⟨false, rfl, iteF ⟨false, rfl, q A B R3 ((s1'.trans s2').trans s3)⟩⟩
        | true =>
          simp only [Option.bind_eq_some_iff, Option.map_eq_some_iff] at e6
          obtain ⟨⟨o3, δ3⟩, e7, dy', e8, dz, e9, r'', e10, e11⟩ := e6
          cases e11
          refine ⟨true, rfl, iteT ?_⟩
          refine ⟨G, A, δ2, o3, δ3, eK, R3, e7, fun u A' B' R4 s4 k4 => ?_⟩
          refine s2 G A' B' δ3 σ w u dy' dz _ eK R4 (R4.rd ((k2.sub s3).sub s4) e8) (R4.rd k4 e9) e10 _ fun z C C' R5 s5 k5 => ?_
          cases r with
          | new _ => cases e00
          | dat d =>
            cases d with
            | bool k =>
              cases e00
              cases k5
              exact ⟨_, rfl, q C C' R5 ((((s1'.trans s2').trans s3).trans s4).trans s5)⟩
            | _ => cases e00
      | _ => cases e6
end
end IP
end
section
set_option Elab.async false
set_option linter.all false
set_option maxRecDepth 100000
set_option maxHeartbeats 2000000
/-! enumerate(tuple). -/
namespace PySem
open AutoSeq1 (wpAny_loadPart')
theorem meets_enumerate_newT (l : Addr) (items : Array Value) :
    Meets (Builtin.«enumerate.__new__» ⟨[.type "enumerate", .ref l], []⟩) (fun _ R s => s.heap.IsTuple l items ∧
      R (.ok (.ret (.ref (s.heap.push { cls := .type "tuple_iterator", data := .fields #[.ref l, .int 0 0] }).objs.size)))
        { s with heap := (s.heap.push { cls := .type "tuple_iterator", data := .fields #[.ref l, .int 0 0] }).push { cls := .type "enumerate", data := .fields #[.none, .bool false, .ref s.heap.objs.size, rawInt 0, .none, .none] } }) :=
  .of_wp fun prog w A R s h => by
    obtain ⟨hp, g, d, tk, os⟩ := s; obtain ⟨hl, h⟩ := h
    have hsub := sub_enumerate
    have hL : Heap.IsTuple (Shared.heap ⟨hp, g, d, tk, os⟩) l items := hl
    wp_walk
    refine wpAny_stack_any fun st => wpAny_pure ?_
    split
    · rename_i c _ _ _ _ _
      cases (c == Value.type "enumerate")
      · wp_walk using wpAny_pyIter_tuple hL
        exact ⟨_, rfl, h⟩
      · wp_walk using wpAny_pyIter_tuple hL
        exact ⟨_, rfl, h⟩
    · wp_walk using wpAny_pyIter_tuple hL
      exact ⟨_, rfl, h⟩
section
variable {prog : Program} {w : World} {A : Around} {E : Value → Shared → Prop} {s : Shared}
theorem call_enumerate_tuple {l : Addr} {items : Array Value} {Q : Value → Shared → Prop} (hL : s.heap.IsTuple l items)
    (h : ∀ h', IsEnum h' (s.heap.objs.size + 1) s.heap.objs.size 0 .none → h'.IsTupleIter s.heap.objs.size l 0 → h'.objs.size = s.heap.objs.size + 2 →
      (∀ b o, s.heap.get? b = some o → h'.get? b = some o) → Q (.ref (s.heap.objs.size + 1)) { s with heap := h' }) :
    wpAny (model prog w) A (call (.type "enumerate") [.ref l]) Q E s := by
  refine callType_new F.called_enumerate (by decide) (F.typeCall_enumerate_1 _) (F.newCall_enumerate_1 _) (fun obj => F.args_object_init_2 obj _) F.entry_enumerate_new
    (meets_enumerate_newT l items) ⟨hL, ?_⟩
  have hz : (s.heap.push { cls := .type "tuple_iterator", data := .fields #[.ref l, .int 0 0] }).objs.size = s.heap.objs.size + 1 := Heap.size_push ..
  show _ ∧ _
  rw [hz]
  have he : IsEnum ((s.heap.push { cls := .type "tuple_iterator", data := .fields #[.ref l, .int 0 0] }).push
      { cls := .type "enumerate", data := .fields #[.none, .bool false, .ref s.heap.objs.size, rawInt 0, .none, .none] }) (s.heap.objs.size + 1) s.heap.objs.size 0 .none := by
    have := Heap.get?_push_size (s.heap.push { cls := .type "tuple_iterator", data := .fields #[.ref l, .int 0 0] })
      (o := { cls := .type "enumerate", data := .fields #[.none, .bool false, .ref s.heap.objs.size, rawInt 0, .none, .none] }) rfl
    rw [hz] at this; exact this
  refine ⟨⟨_, he, rfl⟩, h _ he ⟨_, Heap.get?_push_of_some _ (Heap.get?_push_size _ rfl), rfl, rfl⟩ (by rw [Heap.size_push, hz]) fun b o x => Heap.get?_push_of_some _ (Heap.get?_push_of_some _ x)⟩
end
end PySem
namespace L2
open PySem PySem.Spec PyProof.Rows
def IteT (K : PySem.W.Frag) (a : Addr) : It :=
  ⟨fun i H => ∃ (xs : List V) (x : V), SqT K H a xs ∧ xs[i]? = some x, fun i H v H' => ∃ T x, v = .ref T ∧ H T = none ∧ H' = upd H T (.tup [.int (i : Nat), x]) ∧ ∀ xs, SqT K H a xs → xs[i]? = some x, fun i H => ∃ xs : List V, SqT K H a xs ∧ xs.length ≤ i⟩
theorem turn_enumT {P : Program} {w : World} {K : PySem.W.Frag} {elts : List Expr} {kk : Nat} {tpos : Pos} (a e it : Addr) (hai : a ≠ it) (hae : a ≠ e) :
    Turn P w K (.Tuple elts kk tpos) (IteT K a) [e, it] e (fun i h => (∃ old, IsEnum h e it ((i : Nat) : Int) old) ∧ h.IsTupleIter it a i ∧ e ≠ it) where
  mem := by simp
  obj := fun i h st b hb => by
    obtain ⟨⟨old, he⟩, ⟨o, ho, hc, hd⟩, _⟩ := st
    have e' : b = e ∨ b = it := by simpa using hb
    rcases e' with z | z
    · rw [z]; exact ⟨_, he, fun v q => nomatch q⟩
    · rw [z]; exact ⟨o, ho, fun v q => by rw [hd] at q; cases q⟩
  keep := fun i h h' st k => let ⟨⟨old, he⟩, hi, hne⟩ := st; ⟨⟨old, k e (by simp) _ he⟩, hi.at fun o q => k it (by simp) o q, hne⟩
  item := by
    intro X hP hw hK hc i pins s σ H E I hf st hg
    subst hP hw hK
    obtain ⟨⟨old, he⟩, hit, hne⟩ := st
    obtain ⟨xs, x, hq, hx⟩ := hg
    obtain ⟨its, rv, p, hz⟩ := I.tuple hq
    obtain ⟨u, hu, ru⟩ := rv.get hx
    have hel : e < s.heap.objs.size := Heap.lt_size he
    have hil : it < s.heap.objs.size := by obtain ⟨_, q, _⟩ := hit; exact Heap.lt_size q
    have hiu : i < its.length := (List.getElem?_eq_some_iff.mp hu).1
    have hh : X.A.in1.handled = none := I.ok.hd hc
    refine wpAny_pyNext_enum_itemD (Draws.tuple (prog := X.prog) (w := X.w) (A := X.A.in1) hh it a hai its.toArray) he ⟨hit, p⟩ (by simpa using hiu) hne (by simp [hne, Ne.symm hae]) fun x' h' tk hP ho st' hT hsz hk => ?_
    have ex : x' = u := by
      have h1 : its[i]? = some x' := by simpa using hP
      rw [hu] at h1
      exact (Option.some.inj h1).symm
    subst ex
    refine ⟨_, rfl, wpAny_letOwnedTupleGo_enum (s := { s with heap := h', toks := tk + 1 }) ho fun h'' he' sb => ?_⟩
    have hT2 : h''.get? s.heap.objs.size = some { cls := .type "tuple", data := .seq #[.int i tk, x'] } := (sb.2 _ (Nat.ne_of_gt hel)).trans hT
    have new : ObjOk X.prog X.w (upd H s.heap.objs.size (.tup [.int (i : Nat), x])) h'' s.heap.objs.size (.tup [.int (i : Nat), x]) :=
      ⟨by show 2 ≤ sizeLine; decide, [.int i tk, x'], .cons ⟨_, rfl⟩ (.cons ru .nil), ⟨_, hT2, rfl, _, rfl⟩⟩
    have I1 : Inv X pins σ (upd H s.heap.objs.size (.tup [.int (i : Nat), x])) { s with heap := h'', toks := tk + 1 } :=
      I.turnedNew (t' := tk + 1) (ch := [e, it]) (fun b ob hb q => (sb.2 b (fun z => hb (by simp [z]))).trans (hk b ob (fun z => hb (by simp [z])) (fun z => hb (by simp [z])) q)) hf (Nat.le_refl _) new
    refine ⟨.ref s.heap.objs.size, _, I1, rfl, ⟨_, x, rfl, I.hok.fresh (Nat.le_refl _), rfl, fun ys hy => by rw [I.tuple_inj hy hq]; exact hx⟩, ⟨⟨x', ?_⟩, st'.1.at fun o q => (sb.2 it (Ne.symm hne)).trans q, hne⟩, fun b hb => ?_⟩
    · have e1 : ((i + 1 : Nat) : Int) = (i : Int) + 1 := by omega
      rw [e1]; exact he'
    · have hb' : b < s.heap.objs.size := by
        have e' : b = e ∨ b = it := by simpa using hb
        rcases e' with z | z
        · rw [z]; exact hel
        · rw [z]; exact hil
      rw [upd_ne (Nat.ne_of_lt hb')]
      exact (hf b hb).1
  done := by
    intro X hP hw hK hc i pins s σ H E I hf st hg
    subst hP hw hK
    obtain ⟨⟨old, he⟩, hit, hne⟩ := st
    obtain ⟨xs, hq, hx⟩ := hg
    obtain ⟨its, rv, p, hz⟩ := I.tuple hq
    obtain ⟨f0, f1, f2, f3, f4, f5⟩ := hf it (by simp)
    have hl := rv.length
    have hT : s.TypeIs (.ref e) "enumerate" := ⟨_, he, rfl⟩
    unfold pyNext
    refine wpAny_bind (wpAny_attempt (wpAny_callSpecial?_slot (name := Str.ofString "__next__") hT PySem.F.slot_enumerate_next
      (wpAny_call_entry PySem.F.slot_enumerate_next hT PySem.F.entry_enumerate_next ?_ (PySem.F.args_enumerate_next_1 _))))
    show wpAny _ _ (field (.ref e) 2 >>= _) _ _ _
    refine wpAny_bind (wpAny_field he rfl (x := .ref it) rfl ?_)
    refine wpAny_bind (wpAny_nextOf_tuple_end (I.ok.hd hc) hit p (by simp; omega) fun h' x he' hx' => ?_)
    obtain ⟨o, ho, hc⟩ := hx'
    refine wpAny_bind (wpAny_isInstance (T := "StopIteration") (b := true) ⟨o, ho, hc⟩ isSubtype_stop ?_)
    exact wpAny_pure ⟨rfl, I.turned (t' := s.toks) (fun b o hb q => he' b o hb q) f0 f1 f3 f4 f5⟩
  self := fun A i s Q E st h => let ⟨⟨_, he⟩, _⟩ := st; wpAny_pyIter_enum he h
def iEnumT (K : PySem.W.Frag) (ta : TA) : TI := fun σ H R => ta σ H fun vs H1 => ∃ a xs, vs = [.ref a] ∧ SqT K H1 a xs ∧ R (IteT K a) H1
theorem pi_enumT {X : Cx} {e : Expr} {ta : TA} {p pos tpos : Pos} {elts : List Expr} {kk : Nat} (hg : Gl X "enumerate") (hm : X.mg "enumerate" = none) (ha : PA X [e] ta) (hs : starEach [e] X.env = [(false, eval e X.env)] := by rfl) :
    PI X (.Tuple elts kk tpos) (.Call (.Name "enumerate" p) [e] [] pos) (iEnumT X.K ta) := by
  refine ⟨fun pins s σ H R I h => ?_⟩
  refine Call_ (ld_blt I hg hm boot_enumerate (PyProof.Rows.callWith_type1 (thn (ha.run pos pins s σ H _ I h) fun us s1 ⟨vs, H1, I1, r1, q1⟩ => ?_) hs rfl))
  obtain ⟨a, xs, ex, hq, q⟩ := q1
  subst ex
  cases r1 with
  | cons r rr =>
    cases rr
    cases r
    obtain ⟨its, rv, p', hz⟩ := I1.tuple hq
    have hal : a < s1.heap.objs.size := by obtain ⟨_, q, _⟩ := p'; exact Heap.lt_size q
    refine call_enumerate_tuple (items := its.toArray) p' fun h' he hit hsz hk => wpAny_pyIter_enum he ?_
    have I2 : Inv X pins σ H1 { s1 with heap := h' } := I1.kept (t' := s1.toks) hk
    refine ⟨s1.heap.objs.size + 1, [s1.heap.objs.size + 1, s1.heap.objs.size], _, _, H1, rfl, I2, turn_enumT a (s1.heap.objs.size + 1) s1.heap.objs.size (Nat.ne_of_lt hal) (Nat.ne_of_lt (Nat.lt_succ_of_lt hal)), ⟨⟨.none, he⟩, hit, Nat.succ_ne_self _⟩, fun b hb => ?_, q⟩
    have e' : b = s1.heap.objs.size + 1 ∨ b = s1.heap.objs.size := by simpa using hb
    have hle : s1.heap.objs.size ≤ b := by
      rcases e' with z | z
      · rw [z]; exact Nat.le_add_right _ _
      · rw [z]; exact Nat.le_refl _
    exact I1.fpOk hle (I1.hok.fresh hle)
end L2
end
section
set_option Elab.async false
set_option linter.all false
set_option maxRecDepth 100000
set_option maxHeartbeats 400000
namespace IP
open PySem L2 RZ
section
variable {X : Cx} {K : PySem.W.Frag} {tg e e2 : Expr} {f g : Eo} {pos p : Pos}
theorem pair_laid {G : Gx} {A H : Hp} {δ : Env} {τ : L2.St} {T : Addr} {x y : V} {dx dy : D} (R : Rl G A H δ τ) (hT : H T = none) (r1 : Rel G.K A x dx) (r2 : Rel G.K A y dy) :
    ∃ B, Rl G B (upd H T (.tup [x, y])) δ τ ∧ Sub A B ∧ Sub H (upd H T (.tup [x, y])) ∧ Fro A H B ∧ Rel G.K B (.ref T) (.tuple [dx, dy]) := by
  obtain ⟨R4, s4⟩ := R.laid0 (o := .tup [x, y]) hT
  refine ⟨_, R4, s4, Sub.new hT, fun a o e => ?_, .tup (SqT.of upd_same) (.cons (r1.sub s4) (.cons (r2.sub s4) .nil))⟩
  by_cases ha : a = T
  · subst ha
    exact .inr hT
  · rw [upd_ne ha] at e
    exact .inl ⟨o, e⟩
theorem enumD_get : ∀ {xs : List D} {k i : Nat}, (enumD k xs)[i]? = (xs[i]?).map fun d => .tuple [.int ((k + i : Nat) : Int), d]
  | [], _, i => by simp [enumD]
  | x :: xs, k, 0 => by simp [enumD]
  | x :: xs, k, i + 1 => by
    rw [enumD, List.getElem?_cons_succ, List.getElem?_cons_succ, enumD_get]
    rw [show k + 1 + i = k + (i + 1) by omega]
theorem enumD_length : ∀ (xs : List D) (k : Nat), (enumD k xs).length = xs.length
  | [], _ => rfl
  | x :: xs, k => by rw [enumD, List.length_cons, List.length_cons, enumD_length xs]
theorem iw_enumT {G : Gx} {H0 : Hp} {σ : L2.St} {p : Addr} {ys : List V} {xs : List D} (h : SqT G.K H0 p ys) (r : RelAll G.K H0 ys xs) {ow : Option Nat} : IW G H0 σ (IteT G.K p) (enumD 0 xs) ow where
  goes := fun i A H δ τ R s hk st hi => by
    have hl : i < ys.length := by
      rw [enumD_length] at hi
      rw [r.length]
      exact hi
    exact ⟨ys, ys[i], SqT.sub R.sub (SqT.sub s h), by simp [hl]⟩
  stops := fun A H δ τ R s hk st => ⟨ys, SqT.sub R.sub (SqT.sub s h), by rw [enumD_length, r.length]; exact Nat.le_refl _⟩
  yields := fun i A H δ τ x H' R s hk st hi y => by
    obtain ⟨T, z, rfl, hT, rfl, hz⟩ := y
    obtain ⟨d, h1, h2⟩ := r.getV (hz ys (SqT.sub R.sub (SqT.sub s h)))
    obtain ⟨B, a1, a2, a3, a4, a5⟩ := pair_laid R hT (.int ((i : Nat) : Int)) (h2.sub s)
    exact ⟨B, _, a1, a2, a3, a4, by rw [enumD_get, h1, Nat.zero_add]; rfl, a5⟩
theorem still_len {δ : Env} {xs : List D} {ow : Option Nat} (h : still δ (enumD 0 xs) ow = true) (hn : ow = none) : still δ xs ow = true := by
  subst hn
  rfl
theorem iw_enumL {G : Gx} {H0 : Hp} {σ : L2.St} {p : Addr} {xs : List D} (h : Rel G.K H0 (.ref p) (.list xs)) : IW G H0 σ (Ite G.K p) (enumD 0 xs) none where
  goes := fun i A H δ τ R s hk st hi => by
    cases h with
    | lst h1 h2 =>
      rename_i ys
      have hl : i < ys.length := by
        rw [enumD_length] at hi
        rw [h2.length]
        exact hi
      exact ⟨ys, ys[i], SqL.of (R.sub _ _ (s _ _ h1)), by simp [hl]⟩
  stops := fun A H δ τ R s hk st => by
    cases h with
    | lst h1 h2 => exact ⟨_, SqL.of (R.sub _ _ (s _ _ h1)), by rw [enumD_length, h2.length]; exact Nat.le_refl _⟩
  yields := fun i A H δ τ x H' R s hk st hi y => by
    cases h with
    | lst h1 h2 =>
      obtain ⟨T, z, rfl, hT, rfl, hz⟩ := y
      obtain ⟨d, h3, h4⟩ := h2.getV (hz _ (SqL.of (R.sub _ _ (s _ _ h1))))
      obtain ⟨B, a1, a2, a3, a4, a5⟩ := pair_laid R hT (.int ((i : Nat) : Int)) (h4.sub s)
      exact ⟨B, _, a1, a2, a3, a4, by rw [enumD_get, h3, Nat.zero_add]; rfl, a5⟩
/-- enumerate(e), e data -/
theorem xi_enum {elts : List Expr} {kk : Nat} {tpos : Pos} (hg : Gl X "enumerate") (hm : X.mg "enumerate" = none) (ha : XO X e f) (hs : starEach [e] X.env = (false, eval e X.env) :: starEach [] X.env := by rfl) : XI X (.Tuple elts kk tpos) (.Call (.Name "enumerate" p) [e] [] pos) (iEnum f) :=
  PI.or_ (pi_enum hg hm (pa_cons ha pa_nil hs) hs) (pi_enumT hg hm (pa_cons ha pa_nil hs) hs) fun σ H Rr ⟨G, H0, δ, xs, ow, δ', eK, R, e0, q⟩ => by
    simp only [iEnum, Option.bind_eq_some_iff] at e0
    obtain ⟨⟨o, δ1⟩, e1, e2⟩ := e0
    cases o with
    | «at» i => cases e2
    | val d =>
      cases d with
      | list ds =>
        cases e2
        refine .inl ⟨G, H0, δ, _, _, eK, R, e1, fun v H0' H' R1 s1 k1 => ?_⟩
        have k1' : Rel G.K H0' v (.list ds) := k1
        cases k1' with
        | lst h1 h2 => exact ⟨_, _, rfl, SqL.of (R1.sub _ _ h1), by rw [← eK]; exact q _ _ _ R1 s1 (iw_enumL (.lst h1 h2))⟩
      | tuple ds =>
        cases e2
        refine .inr ⟨G, H0, δ, _, _, eK, R, e1, fun v H0' H' R1 s1 k1 => ?_⟩
        have k1' : Rel G.K H0' v (.tuple ds) := k1
        cases k1' with
        | tup h1 h2 => exact ⟨_, _, rfl, by rw [← eK]; exact SqT.sub R1.sub h1, by rw [← eK]; exact q _ _ _ R1 s1 (iw_enumT h1 h2)⟩
      | _ => cases e2
theorem zipD_get : ∀ {xs ys : List D} {i : Nat}, (zipD xs ys)[i]? = (xs[i]?).bind fun x => (ys[i]?).map fun y => .tuple [x, y]
  | [], ys, i => by simp [zipD]
  | x :: xs, [], i => by
    rw [zipD]
    · cases (x :: xs)[i]? <;> simp
    · simp
  | x :: xs, y :: ys, 0 => by simp [zipD]
  | x :: xs, y :: ys, i + 1 => by rw [zipD, List.getElem?_cons_succ, List.getElem?_cons_succ, List.getElem?_cons_succ, zipD_get]
theorem zipD_length : ∀ (xs ys : List D), (zipD xs ys).length = min xs.length ys.length
  | [], ys => by simp [zipD]
  | x :: xs, [] => by simp [zipD]
  | x :: xs, y :: ys => by
    rw [zipD, List.length_cons, List.length_cons, List.length_cons, zipD_length xs ys]
    omega
theorem iw_zipT {G : Gx} {H0 : Hp} {σ : L2.St} {p q : Addr} {us vs : List V} {xs ys : List D} (h1 : SqT G.K H0 p us) (r1 : RelAll G.K H0 us xs) (h2 : SqT G.K H0 q vs) (r2 : RelAll G.K H0 vs ys) : IW G H0 σ (ItzT G.K p q) (zipD xs ys) none where
  goes := fun i A H δ τ R s hk st hi => by
    rw [zipD_length] at hi
    have l1 := r1.length
    have l2 := r2.length
    exact ⟨us, vs, us[i], vs[i], SqT.sub R.sub (SqT.sub s h1), SqT.sub R.sub (SqT.sub s h2), by simp, by simp⟩
  stops := fun A H δ τ R s hk st => ⟨us, vs, SqT.sub R.sub (SqT.sub s h1), SqT.sub R.sub (SqT.sub s h2), by
    rw [zipD_length, r1.length, r2.length]
    omega⟩
  yields := fun i A H δ τ x H' R s hk st hi y => by
    obtain ⟨T, z, w, rfl, hT, rfl, hz, hw⟩ := y
    obtain ⟨d, a1, a2⟩ := r1.getV (hz us (SqT.sub R.sub (SqT.sub s h1)))
    obtain ⟨d', b1, b2⟩ := r2.getV (hw vs (SqT.sub R.sub (SqT.sub s h2)))
    obtain ⟨B, c1, c2, c3, c4, c5⟩ := pair_laid R hT (a2.sub s) (b2.sub s)
    exact ⟨B, _, c1, c2, c3, c4, by rw [zipD_get, a1, b1]; rfl, c5⟩
theorem iw_zipL {G : Gx} {H0 : Hp} {σ : L2.St} {p q : Addr} {xs ys : List D} (h1 : Rel G.K H0 (.ref p) (.list xs)) (h2 : Rel G.K H0 (.ref q) (.list ys)) : IW G H0 σ (Itz G.K p q) (zipD xs ys) none := by
  cases h1 with
  | lst h1 r1 =>
    cases h2 with
    | lst h2 r2 =>
      rename_i us vs
      exact {
        goes := fun i A H δ τ R s hk st hi => by
          rw [zipD_length] at hi
          have l1 := r1.length
          have l2 := r2.length
          exact ⟨us, vs, us[i], vs[i], SqL.of (R.sub _ _ (s _ _ h1)), SqL.of (R.sub _ _ (s _ _ h2)), by simp, by simp⟩
        stops := fun A H δ τ R s hk st => ⟨us, vs, SqL.of (R.sub _ _ (s _ _ h1)), SqL.of (R.sub _ _ (s _ _ h2)), by
          rw [zipD_length, r1.length, r2.length]
          omega⟩
        yields := fun i A H δ τ x H' R s hk st hi y => by
          obtain ⟨T, z, w, rfl, hT, rfl, hz, hw⟩ := y
          obtain ⟨d, a1, a2⟩ := r1.getV (hz us (SqL.of (R.sub _ _ (s _ _ h1))))
          obtain ⟨d', b1, b2⟩ := r2.getV (hw vs (SqL.of (R.sub _ _ (s _ _ h2))))
          obtain ⟨B, c1, c2, c3, c4, c5⟩ := pair_laid R hT (a2.sub s) (b2.sub s)
          exact ⟨B, _, c1, c2, c3, c4, by rw [zipD_get, a1, b1]; rfl, c5⟩ }
theorem xi_zip {elts : List Expr} {kk : Nat} {tpos : Pos} (hg : Gl X "zip") (hm : X.mg "zip" = none) (ha : XO X e f) (hb : XO X e2 g) (hs : starEach [e, e2] X.env = (false, eval e X.env) :: starEach [e2] X.env := by rfl) (hs2 : starEach [e2] X.env = (false, eval e2 X.env) :: starEach [] X.env := by rfl)
    (h3 : (backTo pos (starEach [e2] X.env)).any (·.1) = false := by rfl) :
    XI X (.Tuple elts kk tpos) (.Call (.Name "zip" p) [e, e2] [] pos) (iZip f g) :=
  (pi_zipA hg hm (pa_cons ha (pa_cons hb pa_nil hs2) hs) hs h3).weak fun σ H Rr ⟨G, H0, δ, xs, ow, δ', eK, R, e0, q⟩ => by
    simp only [iZip, Option.bind_eq_some_iff] at e0
    obtain ⟨⟨o, δ1⟩, e1, ⟨o2, δ2⟩, e2, e3⟩ := e0
    refine ⟨G, H0, δ, o, δ1, eK, R, e1, fun v H0' H' R1 s1 k1 => ?_⟩
    refine ⟨G, H0', δ1, o2, δ2, eK, R1, e2, fun w A B R2 s2 k2 => ?_⟩
    dsimp only at e3
    split at e3
    · cases e3
      have k1' : Rel G.K A v (.list _) := Rel.sub s2 k1
      have k2' : Rel G.K A w (.list _) := k2
      cases k1' with
      | lst h1 r1 =>
        rename_i p1 us
        cases k2' with
        | lst h2 r2 =>
          rename_i p2 vs
          refine ⟨p1, p2, us, vs, rfl, .inl ⟨SqL.of (R2.sub _ _ h1), SqL.of (R2.sub _ _ h2), ?_⟩⟩
          rw [← eK]
          exact q _ _ _ R2 (s1.trans s2) (iw_zipL (.lst h1 r1) (.lst h2 r2))
    · cases e3
      have k1' : Rel G.K A v (.tuple _) := Rel.sub s2 k1
      have k2' : Rel G.K A w (.tuple _) := k2
      cases k1' with
      | tup h1 r1 =>
        rename_i p1 us
        cases k2' with
        | tup h2 r2 =>
          rename_i p2 vs
          refine ⟨p1, p2, us, vs, rfl, .inr ⟨?_, ?_, ?_⟩⟩
          · rw [← eK]
            exact SqT.sub R2.sub h1
          · rw [← eK]
            exact SqT.sub R2.sub h2
          · rw [← eK]
            exact q _ _ _ R2 (s1.trans s2) (iw_zipT h1 r1 h2 r2)
    · cases e3
theorem downD_get {hi : Int} {n i : Nat} (h : i < n) : (downD hi n)[i]? = some (.int (hi - (i : Nat))) := by
  unfold downD
  simp [h]
theorem downD_length (hi : Int) (n : Nat) : (downD hi n).length = n := by
  unfold downD
  simp
theorem iw_down {G : Gx} {H0 : Hp} {σ : L2.St} {hi : Int} {n : Nat} : IW G H0 σ (Itc hi (-1) n) (downD hi n) none where
  goes := fun i A H δ τ R s hk st h => by
    rw [downD_length] at h
    exact h
  stops := fun A H δ τ R s hk st => by
    rw [downD_length]
    exact Nat.le_refl n
  yields := fun i A H δ τ x H' R s hk st h y => by
    obtain ⟨rfl, rfl⟩ := y
    rw [downD_length] at h
    refine ⟨A, _, R, Sub.refl _, Sub.refl _, Fro.refl, downD_get h, ?_⟩
    rw [show hi + (i : Int) * -1 = hi - (i : Int) by omega]
    exact .int _
/-- range(a, b, -1) -/
theorem xi_down {a b : Expr} {u : Nat} {p1 p2 : Pos} (hg : Gl X "range") (hm : X.mg "range" = none) (ha : XO X a f) (hb : XO X b g)
    (hs : starEach [a, b, .UnaryOp .USub (.Constant (.int 1) u p1) p2] X.env = (false, eval a X.env) :: starEach [b, .UnaryOp .USub (.Constant (.int 1) u p1) p2] X.env := by rfl)
    (hs2 : starEach [b, .UnaryOp .USub (.Constant (.int 1) u p1) p2] X.env = (false, eval b X.env) :: starEach [.UnaryOp .USub (.Constant (.int 1) u p1) p2] X.env := by rfl)
    (hs3 : starEach [.UnaryOp .USub (.Constant (.int 1) u p1) p2] X.env = (false, eval (.UnaryOp .USub (.Constant (.int 1) u p1) p2) X.env) :: starEach [] X.env := by rfl)
    (h4 : (backTo pos (starEach [b, .UnaryOp .USub (.Constant (.int 1) u p1) p2] X.env)).any (·.1) = false := by rfl) :
    XI X tg (.Call (.Name "range" p) [a, b, .UnaryOp .USub (.Constant (.int 1) u p1) p2] [] pos) (iDown f g) :=
  (pi_range3 hg hm (pa_cons ha (pa_cons hb (pa_cons (pe_un un_neg pe_int) pa_nil hs3) hs2) hs) hs h4).weak fun σ H Rr ⟨G, H0, δ, xs, ow, δ', eK, R, e0, q⟩ => by
    simp only [iDown, Option.bind_eq_some_iff] at e0
    obtain ⟨⟨o, δ1⟩, e1, ⟨o2, δ2⟩, e2, e3⟩ := e0
    refine ⟨G, H0, δ, o, δ1, eK, R, e1, fun v H0' H' R1 s1 k1 => ?_⟩
    refine ⟨G, H0', δ1, o2, δ2, eK, R1, e2, fun w A B R2 s2 k2 => ?_⟩
    cases o with
    | «at» i => cases e3
    | val d =>
      cases d with
      | int j =>
        cases o2 with
        | «at» i => cases e3
        | val d =>
          cases d with
          | int l =>
            dsimp only at e3
            split at e3
            · rename_i hj
              cases e3
              cases k1
              cases k2
              exact ⟨1, rfl, j, l, -1, (j - l).toNat, rfl, RgC.neg (by omega) (by omega) (by omega) (by omega), q _ _ _ R2 (s1.trans s2) iw_down⟩
            · cases e3
          | _ => cases e3
      | _ => cases e3
end
end IP
end
section
set_option Elab.async false
set_option linter.all false
set_option maxRecDepth 100000
set_option maxHeartbeats 400000
namespace IP
open PySem L2
theorem spI_none {K : PySem.W.Frag} {vs : List V} {H : Hp} {Q : VK} {E : XK} (h : spI K (fun _ _ => none) vs H Q E) : False := by
  obtain ⟨_, _, _, _, h⟩ := h
  rcases h with ⟨_, e, _⟩ | ⟨_, _, _, _, _, _, _, _, _, _, e, _⟩
  · cases e
  · cases e
theorem fn_none {P : Program} {w : World} {K : PySem.W.Frag} {mg : Str → Option Value} {base : Heap} {f : Addr} {fd : FuncData} {ps : List Str} : FnOk P w K mg base CX0 0 f fd ps (spI K fun _ _ => none) :=
  ⟨fun vs H Q E h => (spI_none h).elim, fun A outer s H args us vs Q E _ _ _ _ h => (spI_none h).elim⟩
theorem law_end {K : PySem.W.Frag} {c : Fnc} {H : Hp} {a : Addr} {ns : List Int} {E : XK} (hS : SqL K H a (ns.map V.int)) (h : c none [scr ns] = some (.dat (.bool true), none)) : spI K c [.ref a] H (fun v _ => v = .bl true) E :=
  ⟨H, _, _, Sub.refl _, .inl ⟨.cons (.scr hS) .nil, h, fun v H0' H' _ _ _ _ k => by
    cases k
    rfl⟩⟩
end IP
/-! ### the head's hook, with one Bool more -/
namespace IPL
open PySem PySem.Spec PyProof.Rows L2 IP
def obsE (n : Nat) (fa : List He.Fa) (fn : List He.DefD) (ex : PySem.W.Frag → Bool) (g : Addr → Option Obj) : He.AlD × Bool := (He.obsD fa fn (He.frG g (He.asD g n)), ex (He.frG g (He.asD g n)))
def hookE (n : Nat) (fa : List He.Fa) (fn : List He.DefD) (ex : PySem.W.Frag → Bool) : PySem.W.Hook where
  α := He.AlD × Bool
  obs := fun s => obsE n fa fn ex s.heap.get?
  val := fun _ => (He.valD fn, true)
  says := fun _ h => ∃ K : PySem.W.Frag, K.In h ∧ He.SaysD fa fn K ∧ ex K = true
  of := fun _ _ e => ⟨_, He.frG_in, congrArg (fun z : He.AlD × Bool => z.1) e, congrArg (fun z : He.AlD × Bool => z.2) e⟩
  keeps := fun _ _ _ ⟨K, hK, c⟩ k => ⟨K, PySem.W.Frag.In.keeps hK k, c⟩
theorem obsE_eq {n : Nat} {fa : List He.Fa} {fn : List He.DefD} {ex : PySem.W.Frag → Bool} {g : Addr → Option Obj} {s : Shared} (h : ∀ a, g a = s.heap.get? a) : obsE n fa fn ex g = (hookE n fa fn ex).obs s := by
  have e : g = s.heap.get? := funext h
  rw [e] <;> rfl
end IPL
end
section
set_option linter.all false
/-! AugD: x[i] op= e, as a total function. -/
namespace IP
open PySem
/-- the item of the list of a variable -/
@[simp] def ownGet (δ : Env) (i : Nat) (k : Int) : Option D := match δ[i]? with
  | some (.own xs) => atD xs k
  | some (.prm xs) => atD xs k
  | _ => none
/-- x[i] op= e, of ints: the place, the item, e, the store -/
@[simp] def sAugIx (i : Nat) (ix : Eo) (op : Int → Int → Int) (f : Eo) : Es := fun δ => (if ownAt δ i = true then ix δ else none).bind fun q => match q.1 with
  | .val (.int k) => (ownGet q.2 i k).bind fun d => match d with
    | .int a => (f q.2).bind fun p => match p.1 with
      | .val (.int b) => (withOwn p.2 i fun xs => (ixN xs.length k).map fun j => xs.set j (.int (op a b))).map fun δ' => (.nx, δ')
      | _ => none
    | _ => none
  | _ => none
end IP
end
section
set_option Elab.async false
set_option linter.all false
set_option maxRecDepth 100000
set_option maxHeartbeats 400000
/-! Snd12: x[i] op= e. -/
namespace L2
open PySem PySem.Spec PyProof.Rows
theorem get_list {X : Cx} : PGet X (rIxL X.K) := by
  intro pins s σ H x y v u Q I rx ry h
  obtain ⟨p, xs, i, z, rfl, rfl, hq, he, q⟩ := h
  cases rx
  obtain ⟨t, rfl⟩ := ry
  obtain ⟨its, r, pl, hz⟩ := I.list hq
  obtain ⟨j, h1, h2, h3, h4, h5⟩ := atI_get he
  obtain ⟨w, ew, rw'⟩ := r.get h2
  have hl := r.length
  have hn := line63
  have fin : EP X pins σ Q w s := ⟨z, H, I, rw', q⟩
  by_cases h0 : 0 ≤ i
  · have hj : i.toNat = j := by
      rw [seqIndex_of h0 h5] at h1
      exact Option.some.inj h1
    exact wpAny_getItem_list pl.isList h0 (by omega) (by rw [hj]; simpa using ew) fin
  · have hj : (i + (its.toArray.size : Int)).toNat = j := by
      rw [seqIndex_neg (by omega) h4] at h1
      rw [List.size_toArray, ← hl]
      exact Option.some.inj h1
    exact wpAny_getItem_list_neg pl.isList (by omega) (by rw [List.size_toArray] <;> omega) (by omega) (by rw [hj]; simpa using ew) fin
end L2
namespace IP
open PySem L2
section
variable {X : Cx} {K : PySem.W.Frag} {e : Expr} {f g : Eo} {pos : Pos}
theorem ownGet_at {G : Gx} {A H : Hp} {δ : Env} {σ : L2.St} {i : Nat} {k : Int} {d : D} {p : Addr} (R : Rl G A H δ σ) (e : ownGet δ i k = some d) (hp : σ[i]? = some (some (.ref p))) : ∃ ws u, H p = some (.lst ws) ∧ atI ws k = some u ∧ Rel G.K A u d := by
  unfold ownGet at e
  cases es : δ[i]? with
  | none =>
    rw [es] at e
    cases e
  | some s =>
    rw [es] at e
    have sj := R.slot i s es
    cases s with
    | own ds =>
      obtain ⟨p', vs, h1, h2, h3⟩ := sj
      rw [hp] at h1
      cases h1
      obtain ⟨u, h4, h5⟩ := atD_rel h3.1 e
      exact ⟨vs, u, h2, h4, h5⟩
    | prm ds =>
      obtain ⟨p', vs, h1, _, h2, h3⟩ := sj
      rw [hp] at h1
      cases h1
      obtain ⟨u, h4, h5⟩ := atD_rel h3.1 e
      exact ⟨vs, u, h2, h4, h5⟩
    | _ => cases e
theorem xs_augIx {i : Nat} {y : Str} {py tp : Pos} {ie : Expr} {op : Operator} {b : Int → Int → Int} (hv : PE X (.Name y py) (tVar i)) (hi : XO X ie g) (h : XO X e f) (ho : PIp X op (ipI b))
    (ha : ∀ ov iv new, augStore ie ov iv new = (do holding [new, ov, iv] (setItem ov iv new); release [new, ov, iv] []; pure .next) := by intros; rfl) :
    XS X (.AugAssign (.Subscript (.Name y py) ie tp) op e pos) (sAugIx i g b f) :=
  (ps_augS hv hi get_list h ho set_list ha).weak fun D σ H ⟨G, H0, δ, o, δ', eK, R, e, q⟩ => by
    simp only [sAugIx, Option.bind_eq_some_iff] at e
    obtain ⟨⟨o2, δ2⟩, e1, e3⟩ := e
    split at e1
    · rename_i hown
      obtain ⟨p, vs, hp, hl⟩ := own_ref R hown
      refine ⟨.ref p, hp, G, H0, δ, o2, δ2, eK, R, e1, fun w A2 H2 R2 s2 k2 => ?_⟩
      cases o2 with
      | «at» _ => cases e3
      | val d2 =>
        cases d2 with
        | int k =>
          cases k2
          simp only [Option.bind_eq_some_iff] at e3
          obtain ⟨d, e4, e5⟩ := e3
          cases d with
          | int a =>
            simp only [Option.bind_eq_some_iff] at e5
            obtain ⟨⟨o3, δ3⟩, e6, e7⟩ := e5
            obtain ⟨ws, u, x1, x2, x3⟩ := ownGet_at R2 e4 hp
            cases x3
            refine ⟨p, ws, k, .int a, rfl, rfl, SqL.of x1, x2, G, A2, δ2, o3, δ3, eK, R2, e6, fun w3 A3 H3 R3 s3 k3 => ?_⟩
            cases o3 with
            | «at» _ => cases e7
            | val d3 =>
              cases d3 with
              | int c =>
                cases k3
                simp only [Option.map_eq_some_iff] at e7
                obtain ⟨δ4, e8, e9⟩ := e7
                cases e9
                obtain ⟨p', xs, ws', ys, y1, y2, y3, y4, y5⟩ := withOwn_at R3 e8
                rw [hp] at y1
                cases y1
                simp only [Option.map_eq_some_iff] at y4
                obtain ⟨j, y6, y7⟩ := y4
                subst y7
                refine ⟨a, c, rfl, rfl, p, ws', k, j, rfl, rfl, y2, by rw [y3.length]; exact y6, ?_⟩
                exact q σ A3 _ (y5 _ (RelAll.set (.int _) j y3)) (s2.trans s3)
              | _ => cases e7
          | _ => cases e5
        | _ => cases e3
    · cases e1
end
end IP
end
section
set_option Elab.async false
set_option linter.all false
set_option maxRecDepth 100000
set_option maxHeartbeats 400000
/-! Snd13: reversed(range(n)). -/
namespace IP
open PySem L2 RZ
section
variable {X : Cx} {K : PySem.W.Frag} {tg e : Expr} {f : Eo} {pos p p2 pos2 : Pos}
theorem xi_revR1 (hg : Gl X "reversed") (hm : X.mg "reversed" = none) (hg2 : Gl X "range") (hm2 : X.mg "range" = none) (ha : XO X e f)
    (hs : starEach [e] X.env = (false, eval e X.env) :: starEach [] X.env := by rfl)
    (hs2 : starEach [.Call (.Name "range" p2) [e] [] pos2] X.env = (false, eval (.Call (.Name "range" p2) [e] [] pos2) X.env) :: starEach [] X.env := by rfl) :
    XI X tg (.Call (.Name "reversed" p) [.Call (.Name "range" p2) [e] [] pos2] [] pos) (iRevR1 f) :=
  (pi_revR hg hm (prg_1 hg2 hm2 ha hs) hs2).weak fun σ H Rr ⟨G, H0, δ, xs, ow, δ', eK, R, e0, q⟩ => by
    simp only [iRevR1, Option.bind_eq_some_iff] at e0
    obtain ⟨⟨o, δ1⟩, e1, e2⟩ := e0
    refine ⟨G, H0, δ, o, δ1, eK, R, e1, fun v H0' H' R1 s1 k1 => ?_⟩
    cases o with
    | «at» i => cases e2
    | val d =>
      cases d with
      | int j =>
        dsimp only at e2
        split at e2
        · rename_i hj
          cases e2
          cases k1
          refine ⟨j, rfl, by omega, by omega, by omega, by omega, ?_⟩
          rw [show (0 : Int) + (((j - 0).toNat : Nat) : Int) - 1 = (j.toNat : Int) - 1 by omega, show (j - 0).toNat = j.toNat by omega]
          exact q _ _ _ R1 s1 iw_down
        · cases e2
      | _ => cases e2
end
end IP
end
section
set_option linter.all false
/-! IQ: more operations on data. -/
namespace IP
open PySem
@[simp] def bXor : D → D → Option Res
  | .int a, .int b => if 0 ≤ a ∧ 0 ≤ b then some (.dat (.int ((a.toNat ^^^ b.toNat : Nat) : Int))) else none
  | _, _ => none
@[simp] def bAnd : D → D → Option Res
  | .int a, .int b => if 0 ≤ a ∧ 0 ≤ b then some (.dat (.int ((a.toNat &&& b.toNat : Nat) : Int))) else none
  | _, _ => none
@[simp] def bShl : D → D → Option Res
  | .int a, .int k => if 0 ≤ k ∧ a.natAbs.log2 + k.toNat < 1000000 then some (.dat (.int (a * 2 ^ k.toNat))) else none
  | _, _ => none
/-- e.bit_length() -/
@[simp] def uBits : D → Option Res
  | .int a => some (.dat (.int ((if a = 0 then 0 else a.natAbs.log2 + 1 : Nat) : Int)))
  | _ => none
/-- math.gcd -/
@[simp] def biGcd : List D → Option Res
  | [.int a, .int b] => some (.dat (.int ((Nat.gcd a.natAbs b.natAbs : Nat) : Int)))
  | _ => none
/-- e[::-1] -/
@[simp] def uRev : D → Option Res
  | .list xs => some (.new xs.reverse)
  | .tuple xs => some (.dat (.tuple xs.reverse))
  | _ => none
/-- tuple(reversed(e)) -/
@[simp] def uTupRev : D → Option Res
  | .list xs => some (.dat (.tuple xs.reverse))
  | _ => none
/-- reversed(e), walked -/
@[simp] def iRevS (f : Eo) : Ei := fun δ => (f δ).bind fun p => match p.1 with
  | .val (.list xs) => some ((xs.reverse, none), p.2)
  | .val (.tuple xs) => some ((xs.reverse, none), p.2)
  | _ => none
end IP
end
section
set_option Elab.async false
set_option linter.all false
set_option maxRecDepth 100000
set_option maxHeartbeats 400000
/-! Snd14: bits, gcd, what is read backward. -/
namespace IP
open PySem L2 RZ
section
variable {K : PySem.W.Frag}
theorem s_xor : OpS K (rI0 fun i j => .int (Builtin.bitXor i j)) bXor := by
  intro G H0 H δ σ x y dx dy res eK R rx ry e Q q
  cases dx <;> cases dy <;> simp only [bXor, reduceCtorEq] at e
  split at e
  · rename_i h
    cases e
    obtain rfl := relT_int rx
    obtain rfl := relT_int ry
    exact ⟨_, _, rfl, rfl, q _ _ _ R (Sub.refl _) (by show ResOk G H0 H δ σ _ (V.int (Builtin.bitXor _ _)); rw [Bits.bitXor_pp h.1 h.2]; exact .int _)⟩
  · cases e
theorem s_and : OpS K (rI0 fun i j => .int (Builtin.bitAnd i j)) bAnd := by
  intro G H0 H δ σ x y dx dy res eK R rx ry e Q q
  cases dx <;> cases dy <;> simp only [bAnd, reduceCtorEq] at e
  split at e
  · rename_i h
    cases e
    obtain rfl := relT_int rx
    obtain rfl := relT_int ry
    exact ⟨_, _, rfl, rfl, q _ _ _ R (Sub.refl _) (by show ResOk G H0 H δ σ _ (V.int (Builtin.bitAnd _ _)); rw [PyProof.Rows.bitAnd_pp h.1 h.2]; exact .int _)⟩
  · cases e
theorem s_shl : OpS K (rI CShl fun i j => .int (i * 2 ^ j.toNat)) bShl := s_int fun a b res e => by
  cases a <;> cases b <;> simp only [bShl, reduceCtorEq, Option.some.injEq] at e
  split at e
  · rename_i h
    cases e
    refine ⟨_, _, rfl, rfl, ⟨h.1, ?_⟩, rfl⟩
    unfold Builtin.Int.intBits
    split <;> omega
  · cases e
variable {X : Cx} {tg e : Expr} {f : Eo} {pos p p2 pos2 : Pos}
theorem x_bits {apos : Pos} (ha : XO X e f) (hbase : attributeBase e "bit_length" X.env (eval e X.env) = eval e X.env := by rfl) (hline : (apos.endLine == pos.line) = true := by rfl) : XV X (.Call (.Attribute e "bit_length" apos) [] [] pos) (fUn uBits f) :=
  (pe_bits ha hbase hline).weak fun σ H Q ⟨G, H0, δ, res, δ', eK, R, e, q⟩ => by
    simp only [fUn, Option.bind_eq_some_iff, Option.map_eq_some_iff] at e
    obtain ⟨⟨o1, δ1⟩, e1, dx, e3, r', e5, e6⟩ := e
    cases e6
    refine ⟨G, H0, δ, o1, δ1, eK, R, e1, fun v H0' H' R1 s1 k1 => ?_⟩
    cases dx <;> simp only [uBits, reduceCtorEq, Option.some.injEq] at e5
    subst e5
    obtain rfl := relT_int (R1.rd k1 e3)
    refine ⟨_, rfl, ?_⟩
    rename_i i
    have ei : (Builtin.Int.intBits i : Nat) = (if i = 0 then 0 else i.natAbs.log2 + 1 : Nat) := by
      unfold Builtin.Int.intBits
      by_cases h : i = 0
      · subst h; rfl
      · rw [if_neg h, if_neg (by simpa using h)]
    rw [ei]
    exact q _ _ _ R1 s1 (.int _)
theorem s_gcd : BiS K rGcd biGcd := by
  intro G H0 H δ σ vs ds res eK R r e Q q
  unfold biGcd at e
  split at e
  · cases e
    obtain ⟨v, w, rfl, h, h'⟩ := two r
    obtain rfl := relT_int h
    obtain rfl := relT_int h'
    exact ⟨_, _, rfl, q _ _ _ R (Sub.refl _) (.int _)⟩
  · cases e
theorem x_gcd {A : Ea} {x : Str} {es : List Expr} {a : Expr} (hg : Gl X x) (hm : X.mg x = some (.builtin "math.gcd")) (ha : XA X (a :: es) A) (hdb : (x == ("__debug__" : Str)) = false := by decide)
    (h1 : starEach (a :: es) X.env = (false, eval a X.env) :: starEach es X.env := by rfl) (h2 : (backTo pos (starEach es X.env)).any (·.1) = false := by rfl) : XV X (.Call (.Name x p) (a :: es) [] pos) (vBi biGcd A) :=
  (pe_callBfun cr_gcd hg hm ha hdb h1 h2).weak fun _ _ _ h => bi_read s_gcd h
theorem s_abs : BiS K (fun xs H Q => ∃ i, xs = [.int i] ∧ Q (.int (if i < 0 then -i else i)) H) biAbs := by
  intro G H0 H δ σ vs ds res eK R r e Q q
  unfold biAbs at e
  split at e
  · cases e
    obtain ⟨v, rfl, h⟩ := one r
    obtain rfl := relT_int h
    exact ⟨_, rfl, q _ _ _ R (Sub.refl _) (.int _)⟩
  · cases e
/-! ### reversed -/
theorem iw_revT {G : Gx} {H0 : Hp} {σ : L2.St} {p : Addr} {ys : List V} {xs : List D} (h : SqT G.K H0 p ys) (r : RelAll G.K H0 ys xs) : IW G H0 σ (RT.ItvT G.K p ys.length) xs.reverse none where
  goes := fun i A H δ τ R s hk st hi => by
    rw [List.length_reverse] at hi
    have l := r.length
    exact ⟨by omega, ys, ys[ys.length - 1 - i]'(by omega), SqT.sub R.sub (SqT.sub s h), List.getElem?_eq_getElem (by omega)⟩
  stops := fun A H δ τ R s hk st => by
    rw [List.length_reverse]
    exact Nat.le_of_eq r.length
  yields := fun i A H δ τ x H' R s hk st hi y => by
    rw [List.length_reverse] at hi
    have l := r.length
    obtain ⟨rfl, hz⟩ := y
    obtain ⟨d, h1, h2⟩ := r.getV (hz ys (SqT.sub R.sub (SqT.sub s h)))
    exact ⟨A, d, R, Sub.refl _, Sub.refl _, Fro.refl, by rw [List.getElem?_reverse hi, ← l]; exact h1, h2.sub s⟩
theorem iw_revL {G : Gx} {H0 : Hp} {σ : L2.St} {p : Addr} {ys : List V} {xs : List D} (h : H0 p = some (.lst ys)) (r : RelAll G.K H0 ys xs) : IW G H0 σ (Itv G.K p ys.length) xs.reverse none where
  goes := fun i A H δ τ R s hk st hi => by
    rw [List.length_reverse] at hi
    have l := r.length
    exact ⟨by omega, ys, ys[ys.length - 1 - i]'(by omega), SqL.of (R.sub _ _ (s _ _ h)), List.getElem?_eq_getElem (by omega)⟩
  stops := fun A H δ τ R s hk st => by
    rw [List.length_reverse]
    exact Nat.le_of_eq r.length
  yields := fun i A H δ τ x H' R s hk st hi y => by
    rw [List.length_reverse] at hi
    have l := r.length
    obtain ⟨rfl, hz⟩ := y
    obtain ⟨d, h1, h2⟩ := r.getV (hz ys (SqL.of (R.sub _ _ (s _ _ h))))
    exact ⟨A, d, R, Sub.refl _, Sub.refl _, Fro.refl, by rw [List.getElem?_reverse hi, ← l]; exact h1, h2.sub s⟩
theorem xi_revS (hg : Gl X "reversed") (hm : X.mg "reversed" = none) (ha : XO X e f) (hs : starEach [e] X.env = (false, eval e X.env) :: starEach [] X.env := by rfl) : XI X tg (.Call (.Name "reversed" p) [e] [] pos) (iRevS f) :=
  (RT.pi_revA hg hm ha hs).weak fun σ H Rr ⟨G, H0, δ, xs, ow, δ', eK, R, e0, q⟩ => by
    simp only [iRevS, Option.bind_eq_some_iff] at e0
    obtain ⟨⟨o, δ1⟩, e1, e2⟩ := e0
    cases o with
    | «at» i => cases e2
    | val d =>
      cases d with
      | list ds =>
        cases e2
        refine ⟨G, H0, δ, _, _, eK, R, e1, fun v H0' H' R1 s1 k1 => ?_⟩
        have k1' : Rel G.K H0' v (.list ds) := k1
        cases k1' with
        | lst h1 h2 => exact ⟨_, _, rfl, .inl ⟨SqL.of (R1.sub _ _ h1), by rw [← eK]; exact q _ _ _ R1 s1 (iw_revL h1 h2)⟩⟩
      | tuple ds =>
        cases e2
        refine ⟨G, H0, δ, _, _, eK, R, e1, fun v H0' H' R1 s1 k1 => ?_⟩
        have k1' : Rel G.K H0' v (.tuple ds) := k1
        cases k1' with
        | tup h1 h2 => exact ⟨_, _, rfl, .inr ⟨by rw [← eK]; exact SqT.sub R1.sub h1, by rw [← eK]; exact q _ _ _ R1 s1 (iw_revT h1 h2)⟩⟩
      | _ => cases e2
theorem relAll_rev {K : PySem.W.Frag} {H : Hp} : ∀ {xs : List V} {ds : List D}, RelAll K H xs ds → RelAll K H xs.reverse ds.reverse
  | _, _, .nil => .nil
  | _, _, .cons r t => by
    rw [List.reverse_cons, List.reverse_cons]
    exact (relAll_rev t).append (.cons r .nil)
theorem x_tupRev (hc : X.calm = true) (hg : Gl X "tuple") (hm : X.mg "tuple" = none) (hg2 : Gl X "reversed") (hm2 : X.mg "reversed" = none) (ha : XO X e f)
    (hs : starEach [e] X.env = (false, eval e X.env) :: starEach [] X.env := by rfl)
    (hs2 : starEach [.Call (.Name "reversed" p2) [e] [] pos2] X.env = (false, eval (.Call (.Name "reversed" p2) [e] [] pos2) X.env) :: starEach [] X.env := by rfl) :
    XV X (.Call (.Name "tuple" p) [.Call (.Name "reversed" p2) [e] [] pos2] [] pos) (fUn uTupRev f) :=
  (RT.pe_tupRev hc hg hm hg2 hm2 ha hs hs2).weak fun σ H Q ⟨G, H0, δ, res, δ', eK, R, e, q⟩ => by
    simp only [fUn, Option.bind_eq_some_iff, Option.map_eq_some_iff] at e
    obtain ⟨⟨o1, δ1⟩, e1, dx, e3, r', e5, e6⟩ := e
    cases e6
    refine ⟨G, H0, δ, o1, δ1, eK, R, e1, fun v H0' H' R1 s1 k1 => ?_⟩
    cases dx <;> simp only [uTupRev, reduceCtorEq, Option.some.injEq] at e5
    subst e5
    obtain ⟨p, xs, rfl, h1, h2⟩ := relT_list R1.sub (R1.rd k1 e3)
    refine ⟨p, xs, rfl, SqL.of h1, fun z hz => ?_⟩
    obtain ⟨R4, s4⟩ := R1.laid0 (o := .tup xs.reverse) hz
    exact q _ _ _ R4 (s1.trans s4) (.tup (SqT.of upd_same) ((relAll_rev h2).sub s4))
end
end IP
namespace RevT
open PySem PySem.Spec PyProof.Rows HT
section
variable {prog : Program} {w : World} {A : Around} {E : Value → Shared → Prop} {s : Shared}
theorem sliceApplied_rev {sl : Addr} {vl vu vs : Value} {n : Nat} {Q : Int × Int × Nat → Shared → Prop} (hs : s.heap.IsSliceOf sl vl vu vs) (pl : IsPart vl none) (pu : IsPart vu none) (ps : IsPart vs (some (-1)))
    (h : Q ((n : Int) - 1, -1, n) s) : wpAny (model prog w) A (Builtin.Slice.sliceApplied (.ref sl) (pure (n : Int))) Q E s := by
  obtain ⟨os, hos, hcs, hds⟩ := id hs
  unfold Builtin.Slice.sliceApplied Builtin.Slice.sliceFields
  refine wpAny_bind (wpAny_bind (wpAny_field hos hds (x := vl) rfl (wpAny_bind (wpAny_field hos hds (x := vu) rfl (wpAny_bind (wpAny_field hos hds (x := vs) rfl (wpAny_pure ?_)))))))
  refine wpAny_bind (slicePart_ ps ?_)
  show wpAny _ _ (if ((-1 : Int) == 0) = true then _ else _) _ _ s
  rw [if_neg (by decide)]
  refine wpAny_bind (slicePart_ pl (wpAny_bind (slicePart_ pu (wpAny_bind (wpAny_pure ?_)))))
  show wpAny _ _ (pure ((n : Int) - 1, (-1 : Int), Builtin.Slice.slicePlaces ((n : Int) - 1) (-1) (-1))) _ _ s
  have hp : Builtin.Slice.slicePlaces ((n : Int) - 1) (-1) (-1) = n := by
    unfold Builtin.Slice.slicePlaces
    have h1 : ¬ ((-1 : Int) > 0) := by decide
    simp only [h1, if_false]
    split
    · rw [show (- -1 : Int) = 1 by decide, Int.ediv_one]
      omega
    · omega
  rw [hp]
  exact wpAny_pure h
theorem fm_some {α β : Type} {f : α → Option β} {g : α → β} : ∀ {l : List α}, (∀ x ∈ l, f x = some (g x)) → l.filterMap f = l.map g
  | [], _ => rfl
  | x :: l, h => by
    rw [List.filterMap_cons, h x List.mem_cons_self, List.map_cons, fm_some fun y hy => h y (List.mem_cons_of_mem _ hy)]
theorem pick_rev (xs : Array Value) : ((List.range xs.size).filterMap fun (m : Nat) => xs[(((xs.size : Int) - 1) + (m : Int) * -1).toNat]?).toArray = xs.toList.reverse.toArray := by
  congr 1
  apply List.ext_getElem?
  intro i
  have e : (List.range xs.size).filterMap (fun (m : Nat) => xs[(((xs.size : Int) - 1) + (m : Int) * -1).toNat]?) = (List.range xs.size).map fun m => xs.toList.getD (xs.size - 1 - m) .none := by
    refine fm_some fun m hm => ?_
    have hm := List.mem_range.mp hm
    have h2 : (((xs.size : Int) - 1) + (m : Int) * -1).toNat = xs.size - 1 - m := by omega
    rw [h2]
    have h3 : xs.size - 1 - m < xs.size := by omega
    simp [h3, List.getD]
  rw [e, List.getElem?_map]
  by_cases hi : i < xs.size
  · rw [List.getElem?_reverse (by simpa using hi)]
    have h3 : xs.size - 1 - i < xs.size := by omega
    simp [hi, h3, List.getD]
  · rw [List.getElem?_eq_none (by simp; omega), List.getElem?_eq_none (by simp; omega)]
    rfl
theorem getItem_tuple_rev {t sl : Addr} {items : Array Value} {vl vu vs : Value} {Q : Value → Shared → Prop} (ht : IsTup s.heap t items) (hs : s.heap.IsSliceOf sl vl vu vs) (pl : IsPart vl none) (pu : IsPart vu none) (ps : IsPart vs (some (-1)))
    (h : Q (.ref s.heap.objs.size) { s with heap := s.heap.push { cls := .type "tuple", data := .seq items.toList.reverse.toArray } })
    (hsz : items.size ≤ sizeLine) : wpAny (model prog w) A (getItem (.ref t) (.ref sl)) Q E s := by
  have htake : sizeOk (.seq items.toList.reverse.toArray) := by
    show items.toList.reverse.toArray.size ≤ sizeLine
    rw [List.size_toArray, List.length_reverse, Array.length_toList]
    exact hsz
  obtain ⟨os, hos, hcs, hds⟩ := id hs
  have hTs : s.TypeIs (.ref sl) "slice" := ⟨os, hos, hcs⟩
  unfold getItem
  try with_reducible refine wpAny_holding ?_
  first | refine wpAny_bind (wpAny_pure ?_) | skip
  refine wpAny_bind (wpAny_sequenceKey ht.typeIs (by decide) ?_)
  refine wpAny_bind (wpAny_callSpecial?_slot (name := Str.ofString "__getitem__") ht.typeIs PyProof.Rows.slot_tuple_getitem
    (wpAny_call_entry PyProof.Rows.slot_tuple_getitem ht.typeIs entry_tuple_getitem ?_ (args_tuple_getitem _ _)))
  show wpAny _ _ (Builtin.Tuple.tupleItemsOf (.ref t) >>= _) _ _ s
  refine wpAny_bind (tupleItemsOf_ ht ?_)
  refine wpAny_bind (wpAny_typeOf hTs ?_)
  rw [if_pos (by decide)]
  refine wpAny_bind (sliceApplied_rev hs pl pu ps ?_)
  show wpAny _ _ (if (((items.size : Int) - 1) == 0 && (-1 : Int) == 1 && items.size == items.size) = true then _ else _) _ _ s
  rw [if_neg (by rw [Bool.and_eq_true, Bool.and_eq_true]; intro q; exact absurd q.1.2 (by decide)), pick_rev]
  first
    | exact wpAny_bind (m := Builtin.Tuple.tupleExact _) (wpAny_newObj_type (wpAny_pure ⟨_, rfl, wpAny_pure h⟩) htake)
    | exact wpAny_bind (m := Builtin.Tuple.tupleExact _) (wpAny_newObj_type (wpAny_bind (wpAny_pure (wpAny_pure ⟨_, rfl, wpAny_pure h⟩))) htake)
end
end RevT
namespace L2
open PySem PySem.Spec PyProof.Rows
section
variable {X : Cx}
def rRevA (K : PySem.W.Frag) : V → Hp → VK → Prop := fun x H Q => ∃ a xs, x = .ref a ∧ ((SqL K H a xs ∧ ∀ z, H z = none → Q (.ref z) (upd H z (.lst xs.reverse))) ∨ (SqT K H a xs ∧ ∀ z, H z = none → Q (.ref z) (upd H z (.tup xs.reverse))))
theorem pe_revA {e : Expr} {te : TE} {k : Nat} {p1 p2 p3 pos : Pos} (he : PE X e te) : PE X (.Subscript e (.Slice none none (some (.UnaryOp .USub (.Constant (.int 1) k p1) p2)) p3) pos) (tUn (rRevA X.K) te) := by
  refine ⟨fun pins s σ H Q I h => ?_⟩
  refine Subscript_ (thn (he.run pins s σ H _ I h) fun v s1 ⟨x, H1, I1, r1, q1⟩ => ?_)
  obtain ⟨a, xs, ex, hq⟩ := q1
  subst ex
  cases r1
  have hst : PO X (some (.UnaryOp .USub (.Constant (.int 1) k p1) p2)) (tPart (tUn (rU fun i => .int (-i)) (tC (.int 1)))) := po_some (pe_un un_neg pe_int)
  refine wpAny_Slice (thn (po_none.run pins s1 σ H1 (fun o H2 => o = none ∧ H2 = H1) I1 ⟨rfl, rfl⟩) fun vl s2 ⟨l, H2, I2, pl, el, e2⟩ => ?_)
  subst el e2
  refine thn (po_none.run pins s2 σ H2 (fun o H3 => o = none ∧ H3 = H2) I2 ⟨rfl, rfl⟩) fun vu s3 ⟨u, H3, I3, pu, eu, e3⟩ => ?_
  subst eu e3
  refine thn (hst.run pins s3 σ H3 (fun o H4 => o = some (-1) ∧ H4 = H3) I3 ⟨1, rfl, -1, rfl, rfl, rfl⟩) fun vs s4 ⟨o, H4, I4, ps, eo, e4⟩ => ?_
  subst eo e4
  have I5 : Inv X pins σ H4 { s4 with heap := s4.heap.push { cls := .type "slice", data := .fields #[vl, vu, vs] } } := I4.kept (t' := s4.toks) fun b ob q => Heap.get?_push_of_some _ q
  show wpAny (model X.prog X.w) X.A (subscriptTail e (.Slice none none (some (.UnaryOp .USub (.Constant (.int 1) k p1) p2)) p3) (.ref a) (.ref s4.heap.objs.size)) (EP X pins σ Q) X.xe { s4 with heap := s4.heap.push { cls := .type "slice", data := .fields #[vl, vu, vs] } }
  rcases hq with ⟨hx, q⟩ | ⟨hx, q⟩
  · obtain ⟨its, r, ht, hz⟩ := I5.list hx
    have hlen := r.length
    refine tail_any (ops := [.ref a, .ref s4.heap.objs.size]) ht.isList.typeIs (PySem.slot_list_getitem.lookup) ?_ (by with_unfolding_all rfl)
    refine wpAny_getItem_list_slice ht.isList (Heap.IsSliceOf.new _ vl vu vs) pl pu ps (by decide) ?_ (by rw [List.size_toArray]; omega)
    rw [PySem.W.krv_pick]
    refine ⟨.ref _, _, I5.laid (t' := s4.toks) (o := .lst xs.reverse) (fun b ob q => Heap.get?_push_of_some _ q) (Nat.le_refl _) ?_, rfl, q _ (I5.hok.fresh (Nat.le_refl _))⟩
    exact ⟨by rw [List.length_reverse]; exact hz, _, 0, r.reverse, Heap.get?_push_size _ rfl⟩
  · obtain ⟨its, r, ht, hz⟩ := I5.tuple hx
    have hlen : its.toArray.size = xs.length := by rw [List.size_toArray]; exact r.length.symm
    refine tail_any (ops := [.ref a, .ref s4.heap.objs.size]) ht.typeIs (PyProof.Rows.slot_tuple_getitem.lookup) ?_ (by with_unfolding_all rfl)
    refine RevT.getItem_tuple_rev ht (Heap.IsSliceOf.new _ vl vu vs) pl pu ps ?_ (by rw [hlen]; exact hz)
    refine ⟨.ref _, _, I5.laid (t' := s4.toks) (o := .tup xs.reverse) (fun b ob q => Heap.get?_push_of_some _ q) (Nat.le_refl _) ?_, rfl, q _ (I5.hok.fresh (Nat.le_refl _))⟩
    exact ⟨by rw [List.length_reverse]; exact hz, _, r.reverse, IsTup.new _ _⟩
end
end L2
namespace IP
open PySem L2 RZ
section
variable {K : PySem.W.Frag}
theorem s_rev : UnS K (rRevA K) uRev := by
  intro G H0 H δ σ x dx res eK R rx e Q q
  subst eK
  cases dx <;> simp only [uRev, reduceCtorEq, Option.some.injEq] at e
  · subst e
    obtain ⟨p, xs, rfl, h1, h2⟩ := relT_list R.sub rx
    refine ⟨p, xs, rfl, .inl ⟨SqL.of h1, fun z hz => ?_⟩⟩
    have f := R.freshI hz
    exact q _ _ _ (R.laid hz) (Sub.refl _) ⟨z, _, rfl, upd_same, relAll_rev h2, f.1, f.2.1, f.2.2⟩
  · subst e
    obtain ⟨p, xs, rfl, h1, h2⟩ := relT_tup rx
    refine ⟨p, xs, rfl, .inr ⟨SqT.sub R.sub h1, fun z hz => ?_⟩⟩
    obtain ⟨R4, s4⟩ := R.laid0 (o := .tup xs.reverse) hz
    exact q _ _ _ R4 s4 (.tup (SqT.of upd_same) ((relAll_rev h2).sub s4))
variable {X : Cx} {e : Expr} {f : Eo} {pos p2 : Pos}
theorem x_rev {k : Nat} {p1 p3 : Pos} (ha : XO X e f) : XV X (.Subscript e (.Slice none none (some (.UnaryOp .USub (.Constant (.int 1) k p1) p2)) p3) pos) (fUn uRev f) :=
  (pe_revA ha).weak fun _ _ _ h => un_read s_rev h
end
end IP
end
section
set_option linter.all false
/-! IR: further operations on data; comprehensions with two fors. -/
namespace IP
open PySem
@[simp] def biSum2 : List D → Option Res
  | [.list xs] => (intsOf xs).map fun is => .dat (.int is.sum)
  | [.tuple xs] => (intsOf xs).map fun is => .dat (.int is.sum)
  | _ => none
/-- the turns of a comprehension with two fors -/
def lc2Go (vs vs1 : List Nat) (g : Tg) (t : Et) (it1 : Ei) (g1 : Tg) (t1 : Et) (e : Ev) (src : List D) (ow : Option Nat) : List D → Env → Option (List D × Env)
  | [], δ => if still δ src ow = true then some ([], δ) else none
  | x :: xs, δ => if still δ src ow = true then (g.put x δ).bind fun δ1 => (t δ1).bind fun p => if p.1 = true then
      (it1 p.2).bind fun q => (unAll vs1 q.2).bind fun δ2 => (lcGo vs1 g1 t1 e q.1.1 q.1.2 q.1.1 δ2).bind fun r =>
        (unAll vs r.2).bind fun δ3 => (lc2Go vs vs1 g t it1 g1 t1 e src ow xs δ3).map fun z => (r.1 ++ z.1, z.2)
    else (unAll vs p.2).bind fun δ2 => lc2Go vs vs1 g t it1 g1 t1 e src ow xs δ2 else none
@[simp] def vLc2 (vs vs1 : List Nat) (it : Ei) (g : Tg) (t : Et) (it1 : Ei) (g1 : Tg) (t1 : Et) (e : Ev) : Ev := fun δ => (it δ).bind fun p => (unAll vs p.2).bind fun δ1 =>
  (lc2Go vs vs1 g t it1 g1 t1 e p.1.1 p.1.2 p.1.1 δ1).bind fun q => if q.1.length ≤ line then some (.new q.1, backAll p.2 vs q.2) else none
end IP
end
section
set_option Elab.async false
set_option linter.all false
set_option maxRecDepth 100000
set_option maxHeartbeats 2000000
/-! Snd15: sums of tuples, several values stored at once by way of a tuple, comprehensions with two fors. -/
namespace IP
open PySem L2
section
variable {X : Cx} {K : PySem.W.Frag}
def rSum2 (K : PySem.W.Frag) : List V → Hp → VK → Prop := fun vs H Q => ∃ (a : Addr) (ns : List Int), vs = [V.ref a] ∧ (SqL K H a (ns.map V.int) ∨ SqT K H a (ns.map V.int)) ∧ Q (.int ns.sum) H
theorem cr_sum2 (hc : X.calm = true) : CallR X (.builtin "sum") (rSum2 X.K) := by
  intro pins s σ H vs us Q I r h
  obtain ⟨a, ns, rfl, hs, q⟩ := h
  rcases hs with hs | hs
  · exact cr_sum hc pins s σ H _ us Q I r ⟨a, ns, rfl, hs, q⟩
  · obtain ⟨its, rv, hl, _⟩ := I.tuple hs
    rw [Vals.ref1 r]
    obtain ⟨xs, e⟩ := rv.ints.allInts.items
    have hn : numsOf (PySem.intItems xs).toList = ns := by rw [← e]; exact rv.ints.numsOf
    rw [PySem.nums_intItems] at hn
    rw [e] at hl
    refine PySem.W.ktm_sumG (I.ok.hd hc) (show s.heap.IsTuple a (PySem.intItems xs) from ?_) fun h' tk t' hk => ?_
    · obtain ⟨o, h1, h2, n, h3⟩ := hl
      exact ⟨o, h1, h2, n, h3⟩
    · have := q
      rw [← hn] at this
      rw [preSum_eq, List.take_of_length_le (by simp)]
      exact ⟨.int _, H, I.kept hk, ⟨_, rfl⟩, this⟩
theorem s_sum2 : BiS K (rSum2 K) biSum2 := by
  intro G H0 H δ σ vs ds res eK R r e Q q
  subst eK
  unfold biSum2 at e
  split at e
  · simp only [Option.map_eq_some_iff] at e
    obtain ⟨is, e1, rfl⟩ := e
    obtain ⟨v, rfl, h⟩ := one r
    obtain ⟨p, xs, rfl, h1, h2⟩ := relT_list R.sub h
    obtain rfl := h2.ints e1
    exact ⟨p, is, rfl, .inl (SqL.of h1), q _ _ _ R (Sub.refl _) (.int _)⟩
  · simp only [Option.map_eq_some_iff] at e
    obtain ⟨is, e1, rfl⟩ := e
    obtain ⟨v, rfl, h⟩ := one r
    obtain ⟨p, xs, rfl, h1, h2⟩ := relT_tup h
    obtain rfl := h2.ints e1
    exact ⟨p, is, rfl, .inr (SqT.sub R.sub h1), q _ _ _ R (Sub.refl _) (.int _)⟩
  · cases e
/-! ### a, b = e1, e2 by way of a tuple -/
theorem gss_all {t : TGs} {is : List Nat} (h : GSs K t is) : ∀ (σ : L2.St) (H : Hp) (vs : List V) (Q : L2.St → Hp → Prop), vs.length = is.length → Q (setAll σ is vs) H → t vs σ H Q := by
  induction h with
  | nil =>
    intro σ H vs Q hl q
    cases vs with
    | nil => exact ⟨rfl, q⟩
    | cons _ _ => simp at hl
  | cons h ih =>
    intro σ H vs Q hl q
    cases vs with
    | nil => simp at hl
    | cons v vs => exact ⟨v, vs, rfl, ih _ _ _ _ (by simpa using hl) q⟩
theorem pend_laid {G : Gx} {A H : Hp} {δ : Env} {σ : L2.St} {p : Addr} {o : HO} (R : Rl G A H δ σ) (hp : H p = none) : ∀ {rs : List Res} {vs : List V}, Pend G A H δ σ rs vs → Pend G A (upd H p o) δ σ rs vs
  | [], [], _ => trivial
  | r :: rs, v :: vs, ⟨h1, h2, h3⟩ => by
    refine ⟨?_, pend_laid R hp h2, h3⟩
    cases r with
    | dat d => exact h1
    | new ds =>
      obtain ⟨q, ws, x1, x2, x3, x4, x5, x6⟩ := h1
      exact ⟨q, ws, x1, Sub.new hp _ _ x2, x3, x4, x5, fun i h => x6 i (R.holdsOf (keep_new hp) h)⟩
theorem xs_parT {es es' : List Expr} {t : TGs} {is : List Nat} {fs : List Ev} {j j' : Nat} {pos tp tp' : Pos} {n : Nat} (hg : PG X (.Tuple es j tp) (gTup X.K n t)) (hn : n = is.length) (gs : GSs X.K t is) (h : PA X es' (kR X.K fs)) (hf : fs.length = is.length ∧ is.length ≤ 100)
    (hs : swapsWithSole [.Tuple es j tp] (.Tuple es' j' tp') pos.line X.env = pure false := by rfl) (hw : swappedStores [.Tuple es j tp] (.Tuple es' j' tp') X.env = pure none := by rfl)
    (h1 : (assignEach [.Tuple es j tp] X.env).map (·.2) = [assign (.Tuple es j tp) X.env] := by rfl) : XS X (.Assign [.Tuple es j tp] (.Tuple es' j' tp') pos) (sPar is fs) := (ps_asg (pe_tup h) hg hs hw h1).weak fun D σ H ⟨G, H0, δ, o, δ', eK, R, e, q⟩ => by
  simp only [sPar, Option.bind_eq_some_iff, Option.map_eq_some_iff] at e
  obtain ⟨⟨rs, δ1⟩, e1, δ2, e2, e3⟩ := e
  cases e3
  refine ⟨G, H0, δ, rs, δ1, eK, R, e1, fun vs A H1 R1 s1 k => ?_⟩
  have hl := pend_length k
  rw [pEvs_length e1] at hl
  refine ⟨by rw [sizeLine_eq]; omega, fun p hp => ?_⟩
  refine ⟨p, vs, rfl, SqT.of upd_same, by omega, ?_⟩
  exact gss_all gs σ _ vs _ (by omega) (q _ A _ (Rl.storeAll (R1.laid hp) (pend_laid R1 hp k) e2) s1)
end
end IP
end
section
set_option Elab.async false
set_option linter.all false
set_option maxRecDepth 100000
set_option maxHeartbeats 2000000
/-! Snd16: comprehensions with two fors. -/
namespace IP
open PySem L2
theorem wipe_at {i : Nat} : ∀ (τ : L2.St) (vs : List Nat), i ∈ vs → (L2.wipe τ vs)[i]? = τ[i]?.map fun _ => none := by
  intro τ vs
  induction vs with
  | nil => intro h; simp at h
  | cons v vs ih =>
    intro h
    unfold L2.wipe
    by_cases hv : v = i
    · subst hv
      by_cases hl : v < τ.length
      · rw [List.getElem?_set_self (by rw [wipe_length]; exact hl), List.getElem?_eq_getElem hl]
        rfl
      · rw [List.getElem?_eq_none (by rw [List.length_set, wipe_length]; omega), List.getElem?_eq_none (by omega)]
        rfl
    · rw [List.getElem?_set_ne hv]
      rcases List.mem_cons.mp h with z | z
      · exact absurd z.symm hv
      · exact ih z
theorem wipe_sub (τ : L2.St) {vs1 vs : List Nat} (hs : ∀ i ∈ vs1, i ∈ vs) : L2.wipe (L2.wipe τ vs1) vs = L2.wipe τ vs := by
  apply List.ext_getElem?
  intro i
  by_cases hi : i ∈ vs
  · rw [wipe_at _ _ hi, wipe_at _ _ hi]
    by_cases h1 : i ∈ vs1
    · rw [wipe_at _ _ h1]
      cases τ[i]? <;> rfl
    · rw [wipe_other h1]
  · rw [wipe_other hi, wipe_other hi, wipe_other fun h => hi (hs i h)]
/-- what is walked, whatever else is held -/
def kJ (K : PySem.W.Frag) (f : Ei) : TI := fun σ H R => ∃ G H0 δ xs ow δ', G.K = K ∧ Rl G H0 H δ σ ∧ f δ = some ((xs, ow), δ') ∧
  ∀ J H0' H', Rl G H0' H' δ' σ → Sub H0 H0' → (∀ G2 : Gx, G2.K = G.K → IW G2 H0' σ J xs ow) → R J H'
abbrev XJ (X : Cx) (tg e : Expr) (f : Ei) : Prop := PI X tg e (kJ X.K f)
section
variable {X : Cx} {K : PySem.W.Frag}
theorem iw_list2 {G : Gx} {H0 : Hp} {σ : L2.St} {p : Addr} {xs : List D} {ow : Option Nat} (h : InPlace G H0 σ p xs ow) : ∀ G2 : Gx, G2.K = G.K → IW G2 H0 σ (Itl G.K p) xs ow := fun G2 e => by
  rw [← e]
  refine iw_list ?_
  unfold InPlace at h ⊢
  cases ow with
  | none => rw [e]; exact h
  | some k => exact h
theorem iw_tup2 {G : Gx} {H0 : Hp} {σ : L2.St} {p : Addr} {ys : List V} {xs : List D} (h : SqT G.K H0 p ys) (r : RelAll G.K H0 ys xs) {ow : Option Nat} : ∀ G2 : Gx, G2.K = G.K → IW G2 H0 σ (Itt G.K p) xs ow := fun G2 e => by
  rw [← e] at h r ⊢
  exact iw_tup h r
variable {tg e e2 : Expr} {f g : Eo} {pos p : Pos}
theorem xj_seq (he : XO X e f) : XJ X tg e (iE f) := PI.or_ (pi_list he) (pi_tup he) fun σ H Rr ⟨G, H0, δ, xs, ow, δ', eK, R, e0, q⟩ => by
  simp only [iE, Option.bind_eq_some_iff, Option.map_eq_some_iff] at e0
  obtain ⟨⟨o, δ1⟩, e1, d, e2, ys, e3, e4⟩ := e0
  cases e4
  cases d with
  | list ds =>
    cases e3
    refine .inl ⟨G, H0, δ, o, δ1, eK, R, e1, fun v H0' H' R1 s1 k1 => ?_⟩
    obtain ⟨a, ys, rfl, h1, h2⟩ := seq_l R1 k1 e2
    exact ⟨a, rfl, ⟨ys, SqL.of h1⟩, by rw [← eK]; exact q _ _ _ R1 s1 (iw_list2 h2)⟩
  | tuple ds =>
    cases e3
    refine .inr ⟨G, H0, δ, o, δ1, eK, R, e1, fun v H0' H' R1 s1 k1 => ?_⟩
    obtain ⟨a, ys, rfl, h1, h2⟩ := seq_t R1 k1 e2
    exact ⟨a, rfl, ⟨ys, by rw [← eK]; exact SqT.sub R1.sub h1⟩, by rw [← eK]; exact q _ _ _ R1 s1 (iw_tup2 h1 h2)⟩
  | _ => cases e3
theorem xj_range1 (hg : Gl X "range") (hm : X.mg "range" = none) (ha : XO X e f) (hs : starEach [e] X.env = (false, eval e X.env) :: starEach [] X.env := by rfl) : XJ X tg (.Call (.Name "range" p) [e] [] pos) (iRange1 f) :=
  (pi_range1 hg hm (pa_cons ha pa_nil hs) hs).weak fun σ H Rr ⟨G, H0, δ, xs, ow, δ', eK, R, e0, q⟩ => by
    simp only [iRange1, Option.bind_eq_some_iff] at e0
    obtain ⟨⟨o, δ1⟩, e1, e2⟩ := e0
    refine ⟨G, H0, δ, o, δ1, eK, R, e1, fun v H0' H' R1 s1 k1 => ?_⟩
    cases o with
    | «at» i => cases e2
    | val d =>
      cases d with
      | int j =>
        dsimp only at e2
        split at e2
        · rename_i hj
          cases e2
          cases k1
          exact ⟨j, rfl, hj.1, hj.2, q _ _ _ R1 s1 fun _ _ => iw_range⟩
        · cases e2
      | _ => cases e2
theorem xj_range2 (hg : Gl X "range") (hm : X.mg "range" = none) (ha : XO X e f) (hb : XO X e2 g) (hs : starEach [e, e2] X.env = (false, eval e X.env) :: starEach [e2] X.env := by rfl) (hs2 : starEach [e2] X.env = (false, eval e2 X.env) :: starEach [] X.env := by rfl) : XJ X tg (.Call (.Name "range" p) [e, e2] [] pos) (iRange2 f g) :=
  (pi_range2 hg hm (pa_cons ha (pa_cons hb pa_nil hs2) hs) (by rw [hs, hs2]; rfl) hs2).weak fun σ H Rr ⟨G, H0, δ, xs, ow, δ', eK, R, e0, q⟩ => by
    simp only [iRange2, Option.bind_eq_some_iff] at e0
    obtain ⟨⟨o, δ1⟩, e1, ⟨o2, δ2⟩, e2, e3⟩ := e0
    refine ⟨G, H0, δ, o, δ1, eK, R, e1, fun v H0' H' R1 s1 k1 => ?_⟩
    refine ⟨G, H0', δ1, o2, δ2, eK, R1, e2, fun w A' B' R2 s2 k2 => ?_⟩
    cases o with
    | «at» i => cases e3
    | val d =>
      cases d with
      | int j =>
        cases o2 with
        | «at» i => cases e3
        | val d =>
          cases d with
          | int l =>
            dsimp only at e3
            split at e3
            · rename_i hj
              cases e3
              cases k1
              cases k2
              exact ⟨j, l, rfl, hj, q _ _ _ R2 (s1.trans s2) fun _ _ => iw_range⟩
            · cases e3
          | _ => cases e3
      | _ => cases e3
/-- the reading of a comprehension with two fors -/
theorem lc2_read {it it1 : Ei} {g g1 : TG} {t t1 : Tg} {tt tt1 : Et} {te : Ev} {vs vs1 : List Nat} (gs : GS K g t) (gs1 : GS K g1 t1) (hv : ∀ i ∈ t.slots, i ∈ vs) (hv1 : ∀ i ∈ t1.slots, i ∈ vs1) (hsub : ∀ i ∈ vs1, i ∈ vs) {σ : L2.St} {H : Hp} {Q : VK} (h : kE K (vLc2 vs vs1 it t tt it1 t1 tt1 te) σ H Q) : tLc2 (kI K it) g (kT K tt) (kJ K it1) g1 (kT K tt1) (kE K te) vs vs1 σ H Q := by
  obtain ⟨G, H0, δ, res, δ', eK, R, e, q⟩ := h
  simp only [vLc2, Option.bind_eq_some_iff] at e
  obtain ⟨⟨⟨xs, ow⟩, δ1⟩, e1, δ2, e2, ⟨ys, δ3⟩, e4, e5⟩ := e
  dsimp only at e2 e4 e5
  split at e5
  · rename_i hlen
    cases e5
    refine ⟨G, H0, δ, xs, ow, δ1, eK, R, e1, fun J A H1 R1 s1 iw => ?_⟩
    intro D hD
    have fr := R1.freshU (o := .lst []) hD
    have R2 : Rl G A (upd H1 D (.lst [])) δ2 (wipe σ vs) := (R1.laid hD).wipe e2
    have hD2 : Held G A (upd H1 D (.lst [])) δ2 (wipe σ vs) D [] := ⟨upd_same, fr.1, fr.2.1, (by
      intro i hi
      obtain ⟨s, x1, x2, pz, x3, x4⟩ := hi
      obtain ⟨h1, h2, h3, h4⟩ := unAll_spec e2
      by_cases hj : i ∈ vs
      · rw [h2 i hj] at x1
        cases x1
        cases x2
      · rw [h3 i hj] at x1
        rw [wipe_other hj] at x3
        exact fr.2.2 i ⟨s, x1, x2, pz, x3, x4⟩)⟩
    have hk : ∀ {δ : Env} {xs : List IP.D} {ow : Option Nat} {τ : L2.St} {vs : List Nat}, (∀ i, i ∈ vs → δ[i]? = some .un) → still δ xs ow = true → ∀ k, ow = some k → (wipe τ vs)[k]? = τ[k]? := by
      intro δ xs ow τ vs hun st k ek
      subst ek
      by_cases hj : k ∈ vs
      · simp only [still, hun k hj, slotD] at st
        cases st
      · exact wipe_other hj
    let P : Nat → Hp → Prop := fun i H => ∃ B δ acc accD zs, Rl G B H δ (wipe σ vs) ∧ Sub A B ∧ Held G B H δ (wipe σ vs) D acc ∧ RelAll G.K B acc accD ∧ (∀ i, i ∈ vs → δ[i]? = some .un) ∧ lc2Go vs vs1 t tt it1 t1 tt1 te xs ow (xs.drop i) δ = some (zs, δ3) ∧ ys = accD ++ zs ∧ i ≤ xs.length
    have stl : ∀ {i : Nat} {δ : Env} {zs : List IP.D}, lc2Go vs vs1 t tt it1 t1 tt1 te xs ow (xs.drop i) δ = some (zs, δ3) → still δ xs ow = true := by
      intro i δ zs e
      cases hd : xs.drop i with
      | nil =>
        rw [hd] at e
        unfold lc2Go at e
        split at e
        · assumption
        · cases e
      | cons _ _ =>
        rw [hd] at e
        unfold lc2Go at e
        split at e
        · assumption
        · cases e
    refine ⟨fun i m H => m = xs.length - i ∧ P i H, ⟨_, rfl, A, δ2, [], [], ys, R2, Sub.refl _, hD2, .nil, (unAll_spec e2).2.1, e4, rfl, Nat.zero_le _⟩, ?_⟩
    rintro i m H ⟨rfl, B, δ, acc, accD, zs, R3, s3, hh, ra, hun, e6, ey, hl⟩
    have st := stl e6
    by_cases hi : i < xs.length
    · refine .inr ⟨iw.goes i B H δ _ R3 s3 (hk hun st) st hi, P (i + 1), fun H' p' => ⟨_, by omega, rfl, p'⟩, fun x H' y => ?_⟩
      obtain ⟨C, d, R4, s4, sH, fr4, e7, r⟩ := iw.yields i B H δ _ x H' R3 s3 (hk hun st) st hi y
      have hh4 : Held G C H' δ (wipe σ vs) D acc := ⟨sH _ _ hh.at_, (by
        cases q : C D with
        | none => rfl
        | some o =>
          rcases fr4 D o q with ⟨u, hu⟩ | hu
          · rw [hh.a] at hu
            cases hu
          · rw [hh.at_] at hu
            cases hu), hh.g, fun i hi => hh.h i (R3.holdsOf (keep_sub sH) hi)⟩
      have R5 := R4.hold hh4.at_ hh4.a hh4.g hh4.h
      rw [List.drop_eq_getElem_cons hi] at e6
      have ed : xs[i] = d := by
        rw [List.getElem?_eq_getElem hi] at e7
        exact Option.some.inj e7
      rw [ed] at e6
      unfold lc2Go at e6
      rw [if_pos st] at e6
      simp only [Option.bind_eq_some_iff] at e6
      obtain ⟨δ4, e8, ⟨k, δ5⟩, e9, e10⟩ := e6
      refine gs (G.with D acc) C H' δ δ4 (wipe σ vs) x d eK R5 r e8 _ fun τ R6 w6 => ?_
      have ww : wipe τ vs = wipe σ vs := (w6 vs hv).trans (wipe_wipe σ vs)
      refine ⟨ww, G.with D acc, C, δ4, k, δ5, eK, R6, e9, fun C7 H7 R7 s7 => ?_⟩
      -- behind the inner loop: the names of the comprehension unset
      have back : ∀ {C9 : Hp} {H9 : Hp} {δ8 δ9 : Env} {τ' : L2.St} {acc9 : List V} {accD9 zs9 : List IP.D}, Rl G C9 H9 δ8 τ' → wipe τ' vs = wipe σ vs → Held G C9 H9 δ8 τ' D acc9 → Sub A C9 → RelAll G.K C9 acc9 accD9 → unAll vs δ8 = some δ9 →
          lc2Go vs vs1 t tt it1 t1 tt1 te xs ow (xs.drop (i + 1)) δ9 = some (zs9, δ3) → ys = accD9 ++ zs9 → P (i + 1) H9 := by
        intro C9 H9 δ8 δ9 τ' acc9 accD9 zs9 R9 w9 hh9 s9 ra9 e12 e13 ey9
        have R11 : Rl G C9 H9 δ9 (wipe σ vs) := by
          have := R9.wipe e12
          rw [w9] at this
          exact this
        have un9 := (unAll_spec e12).2.1
        have nh : ∀ j, ¬ Holds H9 δ9 (wipe σ vs) j D := fun j ⟨s, x1, x2, pz, x3, x4⟩ => by
          by_cases hj : j ∈ vs
          · rw [un9 j hj] at x1
            cases x1
            cases x2
          · rw [(unAll_spec e12).2.2.1 j hj] at x1
            rw [wipe_other hj] at x3
            refine hh9.h j ⟨s, x1, x2, pz, ?_, x4⟩
            have : (wipe τ' vs)[j]? = (wipe σ vs)[j]? := by rw [w9]
            rw [wipe_other hj, wipe_other hj] at this
            rw [this]
            exact x3
        exact ⟨C9, δ9, acc9, accD9, zs9, R11, s9, ⟨hh9.at_, hh9.a, hh9.g, nh⟩, ra9, un9, e13, ey9, hi⟩
      cases k with
      | false =>
        refine iteF ?_
        rw [if_neg Bool.false_ne_true] at e10
        simp only [Option.bind_eq_some_iff] at e10
        obtain ⟨δ9, e12, e13⟩ := e10
        obtain ⟨R10, hh10⟩ := R4.found hh4 R7
        exact back R10 ww hh10 (s3.trans (s4.trans s7)) (ra.sub (s4.trans s7)) e12 e13 ey
      | true =>
        refine iteT ?_
        simp only [if_true, Option.bind_eq_some_iff, Option.map_eq_some_iff] at e10
        obtain ⟨⟨⟨ys1, ow1⟩, δ6⟩, e11, δ7, e12, ⟨r1, δr⟩, e13, δ9, e14, ⟨z2, δz⟩, e15, e16⟩ := e10
        dsimp only at e11 e12 e13 e14 e15 e16
        cases e16
        refine ⟨G.with D acc, C7, δ5, ys1, ow1, δ6, eK, R7, e11, fun J1 C8 H8 R8 s8 iw1 => ?_⟩
        have iwG : IW G C8 τ J1 ys1 ow1 := iw1 G rfl
        obtain ⟨R10, hh10⟩ := R4.found hh4 (R8.wipe e12)
        let P1 : Nat → Hp → Prop := fun j H => ∃ B δ acc' accD' zs1, Rl G B H δ (wipe τ vs1) ∧ Sub C8 B ∧ Held G B H δ (wipe τ vs1) D acc' ∧ RelAll G.K B acc' accD' ∧ (∀ i, i ∈ vs1 → δ[i]? = some .un) ∧ lcGo vs1 t1 tt1 te ys1 ow1 (ys1.drop j) δ = some (zs1, δr) ∧ accD ++ r1 = accD' ++ zs1 ∧ j ≤ ys1.length
        have stl1 : ∀ {j : Nat} {δ : Env} {zs : List IP.D}, lcGo vs1 t1 tt1 te ys1 ow1 (ys1.drop j) δ = some (zs, δr) → still δ ys1 ow1 = true := by
          intro i δ zs e
          cases hd : ys1.drop i with
          | nil =>
            rw [hd] at e
            unfold lcGo at e
            split at e
            · assumption
            · cases e
          | cons _ _ =>
            rw [hd] at e
            unfold lcGo at e
            split at e
            · assumption
            · cases e
        refine ⟨fun j k H => k = ys1.length - j ∧ P1 j H, ⟨_, rfl, C8, δ7, acc, accD, r1, R10, Sub.refl _, hh10, ra.sub ((s4.trans s7).trans s8), (unAll_spec e12).2.1, e13, rfl, Nat.zero_le _⟩, ?_⟩
        rintro j kk Hj ⟨rfl, B1, δj, accj, accDj, zsj, Rj, sj, hhj, raj, hunj, ej, eyj, hlj⟩
        have stj := stl1 ej
        by_cases hj : j < ys1.length
        · refine .inr ⟨iwG.goes j B1 Hj δj _ Rj sj (hk hunj stj) stj hj, P1 (j + 1), fun H' p' => ⟨_, by omega, rfl, p'⟩, fun x1 Hx yj => ?_⟩
          obtain ⟨C', d', R4', s4', sH', fr4', e7', r'⟩ := iwG.yields j B1 Hj δj _ x1 Hx Rj sj (hk hunj stj) stj hj yj
          have hh4' : Held G C' Hx δj (wipe τ vs1) D accj := ⟨sH' _ _ hhj.at_, (by
            cases q : C' D with
            | none => rfl
            | some o =>
              rcases fr4' D o q with ⟨u, hu⟩ | hu
              · rw [hhj.a] at hu
                cases hu
              · rw [hhj.at_] at hu
                cases hu), hhj.g, fun i hi => hhj.h i (Rj.holdsOf (keep_sub sH') hi)⟩
          have R5' := R4'.hold hh4'.at_ hh4'.a hh4'.g hh4'.h
          rw [List.drop_eq_getElem_cons hj] at ej
          have ed' : ys1[j] = d' := by
            rw [List.getElem?_eq_getElem hj] at e7'
            exact Option.some.inj e7'
          rw [ed'] at ej
          unfold lcGo at ej
          rw [if_pos stj] at ej
          simp only [Option.bind_eq_some_iff] at ej
          obtain ⟨δ4', e8', ⟨k', δ5'⟩, e9', e10'⟩ := ej
          refine gs1 (G.with D accj) C' Hx δj δ4' (wipe τ vs1) x1 d' eK R5' r' e8' _ fun τ' R6' w6' => ?_
          have ww' : wipe τ' vs1 = wipe τ vs1 := (w6' vs1 hv1).trans (wipe_wipe τ vs1)
          refine ⟨ww', G.with D accj, C', δ4', k', δ5', eK, R6', e9', fun C7' H7' R7' s7' => ?_⟩
          have back1 : ∀ {C9 : Hp} {H9 : Hp} {δ8 δ9 : Env} {acc9 : List V}, Rl G C9 H9 δ8 τ' → Held G C9 H9 δ8 τ' D acc9 → unAll vs1 δ8 = some δ9 → Rl G C9 H9 δ9 (wipe τ vs1) ∧ Held G C9 H9 δ9 (wipe τ vs1) D acc9 ∧ ∀ i, i ∈ vs1 → δ9[i]? = some .un := by
            intro C9 H9 δ8 δ9 acc9 R9 hh9 e12
            have R11 : Rl G C9 H9 δ9 (wipe τ vs1) := by
              have := R9.wipe e12
              rw [ww'] at this
              exact this
            have un9 := (unAll_spec e12).2.1
            refine ⟨R11, ⟨hh9.at_, hh9.a, hh9.g, fun j ⟨s, x1, x2, pz, x3, x4⟩ => ?_⟩, un9⟩
            by_cases hj : j ∈ vs1
            · rw [un9 j hj] at x1
              cases x1
              cases x2
            · rw [(unAll_spec e12).2.2.1 j hj] at x1
              rw [wipe_other hj] at x3
              refine hh9.h j ⟨s, x1, x2, pz, ?_, x4⟩
              have : (wipe τ' vs1)[j]? = (wipe τ vs1)[j]? := by rw [ww']
              rw [wipe_other hj, wipe_other hj] at this
              rw [this]
              exact x3
          cases k' with
          | true =>
            refine iteT ?_
            simp only [if_true, Option.bind_eq_some_iff, Option.map_eq_some_iff] at e10'
            obtain ⟨⟨r8, δ8⟩, e11', δ9', e12', ⟨zs', δz⟩, e13', e14'⟩ := e10'
            cases e14'
            refine ⟨G.with D accj, C7', δ5', r8, δ8, eK, R7', e11', fun v C8' H8' R8' s8' k8 => ?_⟩
            obtain ⟨C9, R9, s9, k9⟩ := R8'.toD k8
            obtain ⟨R10', hh10'⟩ := R4'.found hh4' R9
            obtain ⟨R11, hh11, un9⟩ := back1 R10' hh10' e12'
            have hleq : accj.length = accDj.length := raj.length
            refine ⟨accj, hh11.at_, ?_, ?_⟩
            · have h1 : ys.length = (accD ++ r1).length + z2.length := by
                rw [ey]
                simp only [List.length_append]
                omega
              have h2 : (accD ++ r1).length = accDj.length + (zs'.length + 1) := by
                rw [eyj]
                simp only [List.length_append, List.length_cons]
              exact Nat.lt_of_lt_of_le (show accj.length < ys.length by omega) (line_le hlen)
            · refine ⟨C9, δ9', accj ++ [v], accDj ++ [r8.toD], zs', R11.relay hh11.at_ hh11.a hh11.g hh11.h, ?_, ⟨upd_same, hh11.a, hh11.g, fun i hi => hh11.h i (R11.holdsOf (keep_lst hh11.at_) hi)⟩, (raj.sub (((s4'.trans s7').trans s8').trans s9)).append (.cons k9 .nil), un9, e13', ?_, hj⟩
              · exact sj.trans (((s4'.trans s7').trans s8').trans s9)
              · rw [eyj, List.append_assoc]
                rfl
          | false =>
            refine iteF ?_
            rw [if_neg Bool.false_ne_true] at e10'
            simp only [Option.bind_eq_some_iff] at e10'
            obtain ⟨δ9', e12', e13'⟩ := e10'
            obtain ⟨R10', hh10'⟩ := R4'.found hh4' R7'
            obtain ⟨R11, hh11, un9⟩ := back1 R10' hh10' e12'
            exact ⟨C7', δ9', accj, accDj, zsj, R11, sj.trans (s4'.trans s7'), hh11, raj.sub (s4'.trans s7'), un9, e13', eyj, hj⟩
        · have ejj : j = ys1.length := by omega
          subst ejj
          refine .inl ⟨iwG.stops B1 Hj δj _ Rj sj (hk hunj stj) stj, ?_⟩
          rw [List.drop_length] at ej
          unfold lcGo at ej
          rw [if_pos stj] at ej
          cases ej
          rw [List.append_nil] at eyj
          refine back Rj ?_ hhj (s3.trans (((s4.trans s7).trans s8).trans sj)) raj e14 e15 ?_
          · rw [wipe_sub τ hsub, ww]
          · rw [ey, ← eyj, List.append_assoc]
    · have ei : i = xs.length := by omega
      subst ei
      refine .inl ⟨iw.stops B H δ _ R3 s3 (hk hun st) st, ?_⟩
      rw [List.drop_length] at e6
      unfold lc2Go at e6
      rw [if_pos st] at e6
      cases e6
      rw [List.append_nil] at ey
      subst ey
      have R4 := Rl.back R1 e2 s3 R3
      refine q _ B H R4 (s1.trans s3) ⟨D, acc, rfl, hh.at_, ra, hh.a, hh.g, fun i hi => ?_⟩
      exact hh.h i (back_holds R1 e2 R3 i D hi)
  · cases e5
variable {elt tg1 iter iter1 : Expr} {ifs ifs1 : List Expr} {scope : Scope} {own : List (Str × Nat)} {vs1 : List Nat} {it it1 : Ei} {gg g1 : TG} {t t1 : Tg} {tt tt1 : Et} {te : Ev}
theorem x_lc2 (hc : X.calm = true) (hN : X.N.Nodup) (hi : XI X tg iter it) (ok : BlkOk X.N X.env.scope scope own) (gs : GS X.K gg t) (hv : ∀ i ∈ t.slots, i ∈ own.map (·.2)) (gs1 : GS X.K g1 t1) (hv1 : ∀ i ∈ t1.slots, i ∈ vs1) (hsub : ∀ i ∈ vs1, i ∈ own.map (·.2))
    (hg : ∀ (s : Shared) (H : Hp) (C : Addr) (cl : List (Str × Addr)) (fp : List Addr), PG (X.blk s H scope (compEnvC scope cl C X.env) fp) tg gg) (ht : ∀ (s : Shared) (H : Hp) (C : Addr) (cl : List (Str × Addr)) (fp : List Addr), XTs (X.blk s H scope (compEnvC scope cl C X.env) fp) ifs tt)
    (hi1 : ∀ (s : Shared) (H : Hp) (C : Addr) (cl : List (Str × Addr)) (fp : List Addr), XJ (X.blk s H scope (compEnvC scope cl C X.env) fp) tg1 iter1 it1)
    (hg1 : ∀ (s : Shared) (H : Hp) (C : Addr) (cl : List (Str × Addr)) (fp : List Addr), PG (X.blk s H scope (compEnvC scope cl C X.env) fp) tg1 g1) (ht1 : ∀ (s : Shared) (H : Hp) (C : Addr) (cl : List (Str × Addr)) (fp : List Addr), XTs (X.blk s H scope (compEnvC scope cl C X.env) fp) ifs1 tt1)
    (he : ∀ (s : Shared) (H : Hp) (C : Addr) (cl : List (Str × Addr)) (fp : List Addr), XV (X.blk s H scope (compEnvC scope cl C X.env) fp) elt te) (hs : ∀ x, foldedSetIterable iter X.env x = pure x := by intro _; rfl) (hs1 : ∀ env x, foldedSetIterable iter1 env x = pure x := by intro _ _; rfl) :
    XV X (.ListComp elt [⟨tg, iter, ifs, 0⟩, ⟨tg1, iter1, ifs1, 0⟩] scope pos) (vLc2 (own.map (·.2)) vs1 it t tt it1 t1 tt1 te) := (pe_lc2 hc hN hi ok hsub hg ht hi1 hg1 ht1 he hs hs1).weak fun _ _ _ h => lc2_read gs gs1 hv hv1 hsub h
theorem xs_setLc2 {i : Nat} {y : Str} {py spos : Pos} (hc : X.calm = true) (hN : X.N.Nodup) (hy : X.N[i]? = some y) (hyl : X.env.scope.names.lookup y = some .local)
    (hsw : swapsWith (.ListComp elt [⟨tg, iter, ifs, 0⟩, ⟨tg1, iter1, ifs1, 0⟩] scope pos) (some (.Name y py)) spos.line X.env = pure true) (hi : XI X tg iter it) (ok : BlkOk X.N X.env.scope scope own) (gs : GS X.K gg t) (hv : ∀ i ∈ t.slots, i ∈ own.map (·.2)) (gs1 : GS X.K g1 t1) (hv1 : ∀ i ∈ t1.slots, i ∈ vs1) (hsub : ∀ i ∈ vs1, i ∈ own.map (·.2))
    (hg : ∀ (s : Shared) (H : Hp) (C : Addr) (cl : List (Str × Addr)) (fp : List Addr), PG (X.blk s H scope (compEnvC scope cl C X.env) fp) tg gg) (ht : ∀ (s : Shared) (H : Hp) (C : Addr) (cl : List (Str × Addr)) (fp : List Addr), XTs (X.blk s H scope (compEnvC scope cl C X.env) fp) ifs tt)
    (hi1 : ∀ (s : Shared) (H : Hp) (C : Addr) (cl : List (Str × Addr)) (fp : List Addr), XJ (X.blk s H scope (compEnvC scope cl C X.env) fp) tg1 iter1 it1)
    (hg1 : ∀ (s : Shared) (H : Hp) (C : Addr) (cl : List (Str × Addr)) (fp : List Addr), PG (X.blk s H scope (compEnvC scope cl C X.env) fp) tg1 g1) (ht1 : ∀ (s : Shared) (H : Hp) (C : Addr) (cl : List (Str × Addr)) (fp : List Addr), XTs (X.blk s H scope (compEnvC scope cl C X.env) fp) ifs1 tt1)
    (he : ∀ (s : Shared) (H : Hp) (C : Addr) (cl : List (Str × Addr)) (fp : List Addr), XV (X.blk s H scope (compEnvC scope cl C X.env) fp) elt te) (hs : ∀ x, foldedSetIterable iter X.env x = pure x := by intro _; rfl) (hs1 : ∀ env x, foldedSetIterable iter1 env x = pure x := by intro _ _; rfl) :
    XS X (.Assign [.Name y py] (.ListComp elt [⟨tg, iter, ifs, 0⟩, ⟨tg1, iter1, ifs1, 0⟩] scope pos) spos) (sSet i (vLc2 (own.map (·.2)) vs1 it t tt it1 t1 tt1 te)) :=
  (ps_setLc2 hc hN hy hyl hsw hi ok hsub hg ht hi1 hg1 ht1 he hs hs1).weak fun D σ H h => by
    have := set_read h
    exact lc2_read gs gs1 hv hv1 hsub (K := X.K) (by
      obtain ⟨G, H0, δ, r, δ', eK, R, e, q⟩ := this
      exact ⟨G, H0, δ, r, δ', eK, R, e, q⟩)
end
end IP
end
section
set_option Elab.async false
set_option linter.all false
set_option maxRecDepth 100000
/-! Snd17: a comprehension within a comprehension: its scope. -/
namespace IP
open PySem L2
theorem lookup_rel {env : PySem.Env} : ∀ {names : List (Str × NameKind)} {x : Str}, names.lookup x = some .cell ∨ names.lookup x = some .free →
    (names.map fun (n, k) => if (k == NameKind.free && env.scope.kind == .function && env.kindOf n == some .cell) then (n, NameKind.cell) else (n, k)).lookup x = some .cell ∨
    (names.map fun (n, k) => if (k == NameKind.free && env.scope.kind == .function && env.kindOf n == some .cell) then (n, NameKind.cell) else (n, k)).lookup x = some .free
  | [], _, h => by simp at h
  | (n, k) :: r, x, h => by
    have ih := @lookup_rel env r x
    rw [List.map_cons]
    show List.lookup x ((if (k == NameKind.free && env.scope.kind == .function && env.kindOf n == some .cell) = true then (n, NameKind.cell) else (n, k)) :: _) = _ ∨ List.lookup x ((if (k == NameKind.free && env.scope.kind == .function && env.kindOf n == some .cell) = true then (n, NameKind.cell) else (n, k)) :: _) = _
    by_cases hc : (k == NameKind.free && env.scope.kind == .function && env.kindOf n == some .cell) = true
    · rw [if_pos hc]
      cases hx : x == n with
      | true =>
        left
        rw [List.lookup_cons, hx]
      | false =>
        rw [List.lookup_cons, hx] at h
        rw [List.lookup_cons, hx]
        exact ih h
    · rw [if_neg hc]
      cases hx : x == n with
      | true =>
        rw [List.lookup_cons, hx] at h
        rw [List.lookup_cons, hx]
        exact h
      | false =>
        rw [List.lookup_cons, hx] at h
        rw [List.lookup_cons, hx]
        exact ih h
theorem blkOk_rel {N : List Str} {sc scope : Scope} {env : PySem.Env} {own : List (Str × Nat)} (h : blkC N sc scope own = true) : BlkOk N (relabel sc env) scope own := by
  have b := blkOk_by h
  exact ⟨b.kind, b.uniq, b.ix, fun y hy e => lookup_rel (b.free y hy e), b.own⟩
end IP
end
section
set_option linter.all false
/-! IO: objects of one class with six fields, the second one their own list. -/
namespace IP
open PySem
/-- the fields of the object of a variable -/
@[simp] def obAt (δ : Env) (i : Nat) : Option (List D) := match δ[i]? with
  | some (.obj fs) => some fs
  | some (.pob fs) => some fs
  | _ => none
@[simp] def obPut (δ : Env) (i : Nat) (fs : List D) : Env := match δ[i]? with
  | some (.obj _) => δ.set i (.obj fs)
  | some (.pob _) => δ.set i (.pob fs)
  | _ => δ
@[simp] def rowOf : List D → Option (List D)
  | [_, .list ds, _, _, _, _] => some ds
  | _ => none
/-- x.f -/
@[simp] def vFld (i k : Nat) : Ev := fun δ => if k = 1 then none else (obAt δ i).bind fun fs => fs[k]?.map fun d => (.dat d, δ)
/-- len(x.row), tuple(x.row), x.row[-y] -/
@[simp] def vFLen (i : Nat) : Ev := fun δ => ((obAt δ i).bind rowOf).map fun ds => (.dat (.int ds.length), δ)
@[simp] def vFTup (i : Nat) : Ev := fun δ => ((obAt δ i).bind rowOf).map fun ds => (.dat (.tuple ds), δ)
@[simp] def vFIx (i j : Nat) : Ev := fun δ => ((obAt δ i).bind rowOf).bind fun ds => match δ[j]? with
  | some (.dat (.int b)) => (atD ds (-b)).map fun d => (.dat d, δ)
  | _ => none
/-- x.f = e -/
@[simp] def sFld (i k : Nat) (f : Ev) : Es := fun δ => if k = 1 then none else (f δ).bind fun p => (obAt p.2 i).bind fun fs => if k < fs.length then some (.nx, obPut p.2 i (fs.set k p.1.toD)) else none
/-- x.f op= e, of ints -/
@[simp] def sFAug (i k : Nat) (op : Int → Int → Int) (f : Eo) : Es := fun δ => if k = 1 then none else (obAt δ i).bind fun fs => match fs[k]? with
  | some (.int a) => (f δ).bind fun p => match p.1 with
    | .val (.int b) => (obAt p.2 i).bind fun gs => if k < gs.length then some (.nx, obPut p.2 i (gs.set k (.int (op a b)))) else none
    | _ => none
  | _ => none
@[simp] def rowPut (x : D) : List D → Option (List D)
  | [a, .list ds, b, c, d, e] => if ds.length < line then some [a, .list (ds ++ [x]), b, c, d, e] else none
  | _ => none
/-- x.row.append(y) -/
@[simp] def sFApp (i j : Nat) : Es := fun δ => (obAt δ i).bind fun fs => match δ[j]? with
  | some (.dat x) => (rowPut x fs).map fun gs => (.nx, obPut δ i gs)
  | _ => none
/-- x.m(e, ..), f(x, e, ..): the object by reference -/
@[simp] def vMeth (c : Fnc) (i : Nat) (A : Ea) : Ev := fun δ => (obAt δ i).bind fun _ => (A δ).bind fun p => (vals p.1).bind fun ds => (obAt p.2 i).bind fun fs => (c (some fs) ds).bind fun r => match r.2 with
  | some gs => some (r.1, obPut p.2 i gs)
  | none => none
/-- x = f(e, ..), a new object -/
@[simp] def sCallN (i : Nat) (c : Fnc) (A : Ea) : Es := fun δ => (A δ).bind fun p => (vals p.1).bind fun ds => (c none ds).bind fun r => match r.2 with
  | some fs => (setSlot p.2 i (.obj fs)).map fun δ' => (.nx, δ')
  | none => none
/-- f(e, ..).f, f(e, ..).m() -/
@[simp] def vCallNFld (c : Fnc) (A : Ea) (k : Nat) : Ev := fun δ => if k = 1 then none else (A δ).bind fun p => (vals p.1).bind fun ds => (c none ds).bind fun r => match r.2 with
  | some fs => fs[k]?.map fun d => (.dat d, p.2)
  | none => none
@[simp] def vCallNMeth (c : Fnc) (A : Ea) (m : Fnc) : Ev := fun δ => (A δ).bind fun p => (vals p.1).bind fun ds => (c none ds).bind fun r => match r.2 with
  | some fs => (m (some fs) []).bind fun z => match z.2 with
    | some _ => some (z.1, p.2)
    | none => none
  | none => none
/-- return x -/
@[simp] def sRetG (i : Nat) : Es := fun δ => match δ[i]? with
  | some (.obj _) => some (.ro i, δ)
  | _ => none
@[simp] def Fn.start (F : Fn) (o : Option Slot) (ds : List D) : Option Env := match o with
  | some s => if ds.length + 1 = F.nps then some (s :: (ds.map .dat ++ List.replicate (F.names - F.nps) .un)) else none
  | none => if ds.length = F.nps then some (ds.map .dat ++ List.replicate (F.names - F.nps) .un) else none
/-- a def whose first parameter is an object -/
@[simp] def Fn.runG (F : Fn) : Fnc := fun r ds => match r with
  | some fs => (F.start (some (.pob fs)) ds).bind fun δ0 => (F.body δ0).bind fun p => match p.1, (p.2[0]? : Option Slot) with
    | .nx, some (.pob gs) => some (.dat .none, some gs)
    | .rt r, some (.pob gs) => some (r, some gs)
    | _, _ => none
  | none => none
/-- a def that returns a new object -/
@[simp] def Fn.runN (F : Fn) : Fnc := fun r ds => match r with
  | some _ => none
  | none => (F.start none ds).bind fun δ0 => (F.body δ0).bind fun p => match p.1 with
    | .ro i => match (p.2[i]? : Option Slot) with
      | some (.obj fs) => some (.dat .none, some fs)
      | _ => none
    | _ => none
/-- Growth(p) -/
def newG : Fnc := fun r ds => match r, ds with
  | none, [p] => some (.dat .none, some [p, .list [], .int 0, .list [.int 1], .list [.int 1], .int 1])
  | _, _ => none
end IP
end
section
set_option Elab.async false
set_option linter.all false
set_option maxRecDepth 100000
set_option maxHeartbeats 2000000
namespace IP
open PySem L2
def gX : Nat → Str
  | 0 => "prime"
  | 1 => "row"
  | 2 => "length"
  | 3 => "low"
  | 4 => "older"
  | _ => "shift"
def gV (v0 : V) (q : Addr) (v2 v3 v4 v5 : V) : Nat → V
  | 0 => v0
  | 1 => .ref q
  | 2 => v2
  | 3 => v3
  | 4 => v4
  | _ => v5
theorem gFs_lookup (v0 : V) (q : Addr) (v2 v3 v4 v5 : V) : ∀ k, (gFs v0 q v2 v3 v4 v5).lookup (gX k) = some (gV v0 q v2 v3 v4 v5 k)
  | 0 => by simp [gFs, gX, gV, List.lookup]
  | 1 => by
    have h : (("row" : Str) == "prime") = false := by decide +kernel
    simp [gFs, gX, gV, List.lookup, h]
  | 2 => by
    have h : (("length" : Str) == "prime") = false := by decide +kernel
    have h1 : (("length" : Str) == "row") = false := by decide +kernel
    simp [gFs, gX, gV, List.lookup, h, h1]
  | 3 => by
    have h : (("low" : Str) == "prime") = false := by decide +kernel
    have h1 : (("low" : Str) == "row") = false := by decide +kernel
    have h2 : (("low" : Str) == "length") = false := by decide +kernel
    simp [gFs, gX, gV, List.lookup, h, h1, h2]
  | 4 => by
    have h : (("older" : Str) == "prime") = false := by decide +kernel
    have h1 : (("older" : Str) == "row") = false := by decide +kernel
    have h2 : (("older" : Str) == "length") = false := by decide +kernel
    have h3 : (("older" : Str) == "low") = false := by decide +kernel
    simp [gFs, gX, gV, List.lookup, h, h1, h2, h3]
  | k + 5 => by
    have h : (("shift" : Str) == "prime") = false := by decide +kernel
    have h1 : (("shift" : Str) == "row") = false := by decide +kernel
    have h2 : (("shift" : Str) == "length") = false := by decide +kernel
    have h3 : (("shift" : Str) == "low") = false := by decide +kernel
    have h4 : (("shift" : Str) == "older") = false := by decide +kernel
    simp [gFs, gX, gV, List.lookup, h, h1, h2, h3, h4]
theorem ne_of_beq {a b : Str} (h : (a == b) = false) : ¬ a = b := by simpa using h
def gPut (v : V) (v0 : V) (q : Addr) (v2 v3 v4 v5 : V) : Nat → List (Str × V)
  | 0 => gFs v q v2 v3 v4 v5
  | 1 => gFs v0 q v2 v3 v4 v5
  | 2 => gFs v0 q v v3 v4 v5
  | 3 => gFs v0 q v2 v v4 v5
  | 4 => gFs v0 q v2 v3 v v5
  | _ => gFs v0 q v2 v3 v4 v
theorem gFs_put (v : V) (v0 : V) (q : Addr) (v2 v3 v4 v5 : V) : ∀ k, k ≠ 1 → putF (gX k) v (gFs v0 q v2 v3 v4 v5) = gPut v v0 q v2 v3 v4 v5 k
  | 0, _ => by simp [gFs, gX, gPut, putF]
  | 1, h => absurd rfl h
  | 2, _ => by
    have h : ¬ (("prime" : Str) = "length") := by decide +kernel
    have h1 : ¬ (("row" : Str) = "length") := by decide +kernel
    simp [gFs, gX, gPut, putF, h, h1]
  | 3, _ => by
    have h : ¬ (("prime" : Str) = "low") := by decide +kernel
    have h1 : ¬ (("row" : Str) = "low") := by decide +kernel
    have h2 : ¬ (("length" : Str) = "low") := by decide +kernel
    simp [gFs, gX, gPut, putF, h, h1, h2]
  | 4, _ => by
    have h : ¬ (("prime" : Str) = "older") := by decide +kernel
    have h1 : ¬ (("row" : Str) = "older") := by decide +kernel
    have h2 : ¬ (("length" : Str) = "older") := by decide +kernel
    have h3 : ¬ (("low" : Str) = "older") := by decide +kernel
    simp [gFs, gX, gPut, putF, h, h1, h2, h3]
  | k + 5, _ => by
    have h : ¬ (("prime" : Str) = "shift") := by decide +kernel
    have h1 : ¬ (("row" : Str) = "shift") := by decide +kernel
    have h2 : ¬ (("length" : Str) = "shift") := by decide +kernel
    have h3 : ¬ (("low" : Str) = "shift") := by decide +kernel
    have h4 : ¬ (("older" : Str) = "shift") := by decide +kernel
    simp [gFs, gX, gPut, putF, h, h1, h2, h3, h4]
section
variable {K : PySem.W.Frag} {A B H H' : Hp} {p q : Addr} {fs gs : List D} {G : Gx} {δ δ' : Env} {σ : L2.St} {i : Nat}
/-- a field of an object -/
theorem ObAt.fld (h : ObAt K A H p q fs) {k : Nat} {d : D} (hk : k ≠ 1) (e : fs[k]? = some d) : ∃ dx l v, H p = some (.ins (GC K) dx l) ∧ l.lookup (gX k) = some v ∧ Rel K A v d := by
  obtain ⟨dx, v0, v2, v3, v4, v5, rs, d0, ds, d2, d3, d4, d5, h⟩ := h
  refine ⟨dx, _, _, h.hp, gFs_lookup _ _ _ _ _ _ k, ?_⟩
  rw [h.fs] at e
  match k, hk, e with
  | 0, _, e =>
    cases e
    exact h.r0
  | 2, _, e =>
    cases e
    exact h.r2
  | 3, _, e =>
    cases e
    exact h.r3
  | 4, _, e =>
    cases e
    exact h.r4
  | 5, _, e =>
    cases e
    exact h.r5
  | k + 6, _, e => simp at e
theorem ObAt.row_ (h : ObAt K A H p q fs) {ds : List D} (e : rowOf fs = some ds) : ∃ dx l rs, H p = some (.ins (GC K) dx l) ∧ l.lookup (gX 1) = some (.ref q) ∧ H q = some (.lst rs) ∧ RelAll K A rs ds := by
  obtain ⟨dx, v0, v2, v3, v4, v5, rs, d0, ds', d2, d3, d4, d5, h⟩ := h
  refine ⟨dx, _, rs, h.hp, gFs_lookup _ _ _ _ _ _ 1, h.hq, ?_⟩
  rw [h.fs] at e
  cases e
  exact h.rr
/-- a field is written -/
theorem ObAt.setF (h : ObAt K A H p q fs) {k : Nat} {v : V} {d : D} (hk : k ≠ 1) (hl : k < fs.length) (r : Rel K A v d) : ∃ dx l, H p = some (.ins (GC K) dx l) ∧ l.length = 6 ∧ ObAt K A (upd H p (.ins (GC K) dx (putF (gX k) v l))) p q (fs.set k d) := by
  have hne := h.ne
  obtain ⟨dx, v0, v2, v3, v4, v5, rs, d0, ds', d2, d3, d4, d5, h⟩ := h
  refine ⟨dx, _, h.hp, rfl, ?_⟩
  rw [gFs_put _ _ _ _ _ _ _ _ hk]
  have hq : ∀ o, upd H p o q = some (.lst rs) := fun o => by
    rw [upd_ne (Ne.symm hne)]
    exact h.hq
  have hf := h.fs
  subst hf
  match k, hk, hl with
  | 0, _, _ => exact ⟨dx, _, _, _, _, _, _, _, _, _, _, _, _, rfl, upd_same, hq _, h.rr, r, h.r2, h.r3, h.r4, h.r5, h.np, h.nq⟩
  | 2, _, _ => exact ⟨dx, _, _, _, _, _, _, _, _, _, _, _, _, rfl, upd_same, hq _, h.rr, h.r0, r, h.r3, h.r4, h.r5, h.np, h.nq⟩
  | 3, _, _ => exact ⟨dx, _, _, _, _, _, _, _, _, _, _, _, _, rfl, upd_same, hq _, h.rr, h.r0, h.r2, r, h.r4, h.r5, h.np, h.nq⟩
  | 4, _, _ => exact ⟨dx, _, _, _, _, _, _, _, _, _, _, _, _, rfl, upd_same, hq _, h.rr, h.r0, h.r2, h.r3, r, h.r5, h.np, h.nq⟩
  | 5, _, _ => exact ⟨dx, _, _, _, _, _, _, _, _, _, _, _, _, rfl, upd_same, hq _, h.rr, h.r0, h.r2, h.r3, h.r4, r, h.np, h.nq⟩
  | k + 6, _, hl =>
    simp at hl
    omega
/-- its own list grows -/
theorem ObAt.putR (h : ObAt K A H p q fs) {v : V} {d : D} (e : rowPut d fs = some gs) (r : Rel K A v d) : ∃ rs, H q = some (.lst rs) ∧ rs.length < line ∧ ObAt K A (upd H q (.lst (rs ++ [v]))) p q gs := by
  have hne := h.ne
  obtain ⟨dx, v0, v2, v3, v4, v5, rs, d0, ds', d2, d3, d4, d5, h⟩ := h
  have hf := h.fs
  subst hf
  simp only [rowPut] at e
  split at e
  · rename_i hl
    cases e
    refine ⟨rs, h.hq, by rw [h.rr.length]; exact hl, dx, v0, v2, v3, v4, v5, _, _, _, _, _, _, _, rfl, ?_, upd_same, h.rr.append (.cons r .nil), h.r0, h.r2, h.r3, h.r4, h.r5, h.np, h.nq⟩
    rw [upd_ne hne]
    exact h.hp
  · cases e
/-- the object of a variable -/
theorem ob_at (R : Rl G A H δ σ) (e : obAt δ i = some fs) : ∃ s p q, δ[i]? = some s ∧ isOwn s = true ∧ isOb s = true ∧ (s = .obj fs ∨ s = .pob fs) ∧ σ[i]? = some (some (.ref p)) ∧ ObAt G.K A H p q fs := by
  unfold obAt at e
  cases es : δ[i]? with
  | none =>
    rw [es] at e
    cases e
  | some s =>
    rw [es] at e
    have sj := R.slot i s es
    cases s with
    | obj gs =>
      cases e
      obtain ⟨p, q, e1, e2, _⟩ := sj
      exact ⟨_, p, q, rfl, rfl, rfl, .inl rfl, e1, e2⟩
    | pob gs =>
      cases e
      obtain ⟨p, q, e1, _, _, e2⟩ := sj
      exact ⟨_, p, q, rfl, rfl, rfl, .inr rfl, e1, e2⟩
    | _ => cases e
theorem obPut_get {s : Slot} (e : δ[i]? = some s) (h : isOb s = true) : ∃ s', obPut δ i gs = δ.set i s' ∧ isOb s' = true ∧ isOwn s' = true ∧ isPrm s' = isPrm s ∧ ((s' = .obj gs ∧ ∃ fs, s = .obj fs) ∨ (s' = .pob gs ∧ ∃ fs, s = .pob fs)) := by
  unfold obPut
  rw [e]
  cases s with
  | obj fs => exact ⟨_, rfl, rfl, rfl, rfl, .inl ⟨rfl, fs, rfl⟩⟩
  | pob fs => exact ⟨_, rfl, rfl, rfl, rfl, .inr ⟨rfl, fs, rfl⟩⟩
  | _ => cases h
/-- the heap has grown, an object has changed -/
theorem Rl.growOb (R : Rl G A H δ σ) {s : Slot} (e : δ[i]? = some s) (hob : isOb s = true) (hi : σ[i]? = some (some (.ref p))) (ob : ObAt G.K A H p q fs)
    (hH : ∀ a o, H a = some o → a ≠ p → a ≠ q → H' a = some o) (h0 : Sub A B) (hs : Sub B H') (hf : Fro A H B) (ob' : ObAt G.K B H' p q gs) : Rl G B H' (obPut δ i gs) σ := by
  obtain ⟨s', ep, hob', how', hpr', hs'⟩ := obPut_get (gs := gs) e hob
  rw [ep]
  have how : isOwn s = true := by cases s <;> first | rfl | cases hob
  have hlt : i < δ.length := (List.getElem?_eq_some_iff.mp e).1
  have hp := Holds.of (H := H) e how hi
  have hq := Holds.ofRow (H := H) e how hob hi ob.row
  have far : ∀ {j : Nat} {u : Slot} {a : Addr}, i ≠ j → δ[j]? = some u → isOwn u = true → Foot H σ j u a → a ≠ p ∧ a ≠ q := fun {j u a} hj h1 h2 h3 => ⟨fun z => by
    subst z
    exact hj (R.inj i j a hp ⟨u, h1, h2, h3⟩), fun z => by
    subst z
    exact hj (R.inj i j a hq ⟨u, h1, h2, h3⟩)⟩
  have fro : ∀ a o, H a = some o → A a = none → B a = none := fun a o e n => by
    cases z : B a with
    | none => rfl
    | some u =>
      rcases hf a u z with ⟨w, hw⟩ | hw
      · rw [n] at hw
        cases hw
      · rw [e] at hw
        cases hw
  have back : ∀ j a, Holds H' (δ.set i s') σ j a → Holds H δ σ j a := fun j a ⟨u, u1, u2, pj, u3, u4⟩ => by
    by_cases hj : i = j
    · subst hj
      rw [hi] at u3
      cases u3
      rcases u4 with rfl | ⟨_, u4⟩
      · exact hp
      · rw [u4.inj ob'.row]
        exact hq
    · rw [List.getElem?_set_ne hj] at u1
      refine ⟨u, u1, u2, pj, u3, ?_⟩
      rcases u4 with u4 | ⟨u4, u5⟩
      · exact .inl u4
      · obtain ⟨qj, fj, obj_, _⟩ := R.ob u1 u4 u3
        have nf := far hj u1 u2 ⟨pj, u3, .inl rfl⟩
        have r := obj_.row.in (H' := H') fun o eo _ => hH pj o eo nf.1 nf.2
        rw [u5.inj r]
        exact .inr ⟨u4, obj_.row⟩
  refine ⟨by rw [List.length_set]; exact R.len, hs, R.up.trans h0, fun a o eo h h' => ?_, fun a o eo => ?_, fun j u h => ?_, fun a b z h1 h2 => R.inj a b z (back _ _ h1) (back _ _ h2), fun z hz => ?_, fun w hw => ?_⟩
  · have n : ∀ {b}, Holds H δ σ i b → a ≠ b := fun {b} hb z => by
      subst z
      rcases (R.held hb).2.2 with x | ⟨z, x1, x2⟩ | x
      · rw [eo] at x
        cases x
      · exact h z x1 x2
      · exact h' x
    exact hH a o (R.keep a o eo h h') (n hp) (n hq)
  · rcases hf a o eo with ⟨u, h⟩ | h
    · exact R.fro a u h
    · exact .inr (R.fresh h).2.1
  · by_cases hj : i = j
    · subst hj
      rw [List.getElem?_set_self hlt] at h
      cases h
      have sj := R.slot i s e
      rcases hs' with ⟨rfl, f, rfl⟩ | ⟨rfl, f, rfl⟩
      · obtain ⟨p', q', x1, x2, x3, x4⟩ := sj
        rw [hi] at x1
        cases x1
        obtain rfl := x2.row.inj ob.row
        exact ⟨p, q', hi, ob', x3, x4⟩
      · obtain ⟨p', q', x1, x0, x3, x2⟩ := sj
        rw [hi] at x1
        cases x1
        obtain rfl := x2.row.inj ob.row
        exact ⟨p, q', hi, x0, x3, ob'⟩
    · rw [List.getElem?_set_ne hj] at h
      refine (R.slot j u h).mono h0 (fun a o eo h1 h2 => ?_) (fun a h1 h2 n => ?_)
      · have nf := far hj h h1 h2
        exact hH a o eo nf.1 nf.2
      · obtain ⟨⟨o, eo⟩, _⟩ := R.held ⟨u, h, h1, h2⟩
        exact fro a o eo n
  · obtain ⟨u, e1, e2, e3⟩ := R.prs z hz
    by_cases hj : i = z.1
    · subst hj
      rw [e1] at e
      cases e
      exact ⟨s', List.getElem?_set_self hlt, by rw [hpr']; exact e2, e3⟩
    · exact ⟨u, by rw [List.getElem?_set_ne hj]; exact e1, e2, e3⟩
  · obtain ⟨j, fj, pj, e1, e2, e3⟩ := R.qrs w hw
    by_cases hj : i = j
    · subst hj
      rw [e1] at e
      cases e
      rw [hi] at e2
      cases e2
      obtain rfl := e3.inj ob.row
      rcases hs' with ⟨rfl, f, z⟩ | ⟨rfl, f, z⟩
      · cases z
      · exact ⟨i, gs, p, List.getElem?_set_self hlt, hi, ob'.row⟩
    · have nf := far hj e1 rfl ⟨pj, e2, .inl rfl⟩
      exact ⟨j, fj, pj, by rw [List.getElem?_set_ne hj]; exact e1, e2, e3.in fun o eo _ => hH pj o eo nf.1 nf.2⟩
/-- .. by one store -/
theorem Rl.oneOb (R : Rl G A H δ σ) {s : Slot} (e : δ[i]? = some s) (hob : isOb s = true) (hi : σ[i]? = some (some (.ref p))) (ob : ObAt G.K A H p q fs) {a : Addr} {o : HO} (ha : a = p ∨ a = q) (ob' : ObAt G.K A (upd H a o) p q gs) : Rl G A (upd H a o) (obPut δ i gs) σ := by
  have na : A a = none := by
    rcases ha with rfl | rfl
    · exact ob.np
    · exact ob.nq
  refine R.growOb e hob hi ob (fun b u eb h1 h2 => ?_) (Sub.refl _) (fun b u eb => ?_) Fro.refl ob'
  · rw [upd_ne (fun z => by
      subst z
      rcases ha with rfl | rfl
      · exact h1 rfl
      · exact h2 rfl)]
    exact eb
  · rw [upd_ne (ne_of_none eb na)]
    exact R.sub b u eb
end
end IP
end
section
set_option Elab.async false
set_option linter.all false
set_option maxRecDepth 100000
set_option maxHeartbeats 2000000
namespace IP
open PySem L2
/-- what is asked of the class -/
structure GT (K : PySem.W.Frag) : Prop where
  cls : Cls K (GC K)
  no : ∀ k, NoAttr K (GC K) (gX k)
/-- no field has the name -/
def gFree (m : Str) : Prop := ¬ m = "prime" ∧ ¬ m = "row" ∧ ¬ m = "length" ∧ ¬ m = "low" ∧ ¬ m = "older" ∧ ¬ m = "shift"
theorem gFree_look {m : Str} (h : gFree m) (v0 : V) (q : Addr) (v2 v3 v4 v5 : V) : (gFs v0 q v2 v3 v4 v5).lookup m = none := by
  obtain ⟨h0, h1, h2, h3, h4, h5⟩ := h
  have b : ∀ {x : Str}, ¬ m = x → (m == x) = false := fun h => by simpa using h
  simp [gFs, List.lookup, b h0, b h1, b h2, b h3, b h4, b h5]
/-- what a def promises whose first parameter is an object -/
def spG (K : PySem.W.Frag) (c : Fnc) : Sp := fun vs H Q _ => ∃ (H0 : Hp) (ds : List D) (r : Res) (p q : Addr) (fs gs : List D) (ws : List V), Sub H0 H ∧ vs = .ref p :: ws ∧ RelAll K H0 ws ds ∧ ObAt K H0 H p q fs ∧ c (some fs) ds = some (r, some gs) ∧
  ∀ v H0' H', Sub H0 H0' → Sub H0' H' → (∀ a o, H a = some o → a ≠ p → a ≠ q → H' a = some o) → Fro H0 H H0' → ObAt K H0' H' p q gs → RetOk K H H0' H' r v → Q v H'
/-- .. a def that returns a new object -/
def spN (K : PySem.W.Frag) (c : Fnc) : Sp := fun vs H Q _ => ∃ (H0 : Hp) (ds : List D) (r : Res) (fs : List D), Sub H0 H ∧ RelAll K H0 vs ds ∧ c none ds = some (r, some fs) ∧
  ∀ p q H0' H', Sub H0 H0' → Sub H0' H' → Sub H H' → Fro H0 H H0' → ObAt K H0' H' p q fs → H p = none → H q = none → Q (.ref p) H'
/-- __init__ of a new object -/
def spInit (K : PySem.W.Frag) : Sp := fun vs H Q _ => ∃ (p dx : Addr) (v : V), vs = [.ref p, v] ∧ H p = some (.ins (GC K) dx []) ∧
  ∀ q l o H', H q = none → H l = none → H o = none → q ≠ l → q ≠ o → l ≠ o → H' p = some (.ins (GC K) dx (gFs v q (.int 0) (.ref l) (.ref o) (.int 1))) → H' q = some (.lst []) → H' l = some (.lst [.int 1]) → H' o = some (.lst [.int 1]) →
    (∀ a u, H a = some u → a ≠ p → H' a = some u) → Q .non H'
theorem spG_none {K : PySem.W.Frag} {vs : List V} {H : Hp} {Q : VK} {E : XK} (h : spG K (fun _ _ => none) vs H Q E) : False := by
  obtain ⟨_, _, _, _, _, _, _, _, _, _, _, _, e, _⟩ := h
  cases e
theorem spN_none {K : PySem.W.Frag} {vs : List V} {H : Hp} {Q : VK} {E : XK} (h : spN K (fun _ _ => none) vs H Q E) : False := by
  obtain ⟨_, _, _, _, _, _, e, _⟩ := h
  cases e
theorem fnG_none {P : Program} {w : World} {K : PySem.W.Frag} {mg : Str → Option Value} {base : Heap} {f : Addr} {fd : FuncData} {ps : List Str} : FnOk P w K mg base CX0 0 f fd ps (spG K fun _ _ => none) :=
  ⟨fun vs H Q E h => (spG_none h).elim, fun A outer s H args us vs Q E _ _ _ _ h => (spG_none h).elim⟩
theorem fnN_none {P : Program} {w : World} {K : PySem.W.Frag} {mg : Str → Option Value} {base : Heap} {f : Addr} {fd : FuncData} {ps : List Str} : FnOk P w K mg base CX0 0 f fd ps (spN K fun _ _ => none) :=
  ⟨fun vs H Q E h => (spN_none h).elim, fun A outer s H args us vs Q E _ _ _ _ h => (spN_none h).elim⟩
section
variable {X : Cx} {K : PySem.W.Frag} {i j k : Nat} {y : Str} {py pos ap cp : Pos}
theorem fld_read (T : GT X.K) (hk : k ≠ 1) {G : Gx} {A H : Hp} {δ : Env} {σ : L2.St} {fs : List D} {d : D} {Q : VK} (eK : G.K = X.K) (R : Rl G A H δ σ) (e : obAt δ i = some fs) (ed : fs[k]? = some d) (q : ∀ v, Rel G.K A v d → Q v H) : tFld X.K (tVar i) (gX k) σ H Q := by
  obtain ⟨s, p, q', x1, x2, x3, x4, x5, x6⟩ := ob_at R e
  obtain ⟨dx, l, v, y1, y2, y3⟩ := x6.fld hk ed
  refine ⟨.ref p, x5, p, _, dx, l, v, rfl, y1, ?_, ?_, y2, q v y3⟩
  · rw [eK]
    exact T.cls
  · rw [eK]
    exact T.no k
/-- x.f -/
theorem x_fld (T : GT X.K) (hv : PE X (.Name y py) (tVar i)) (hb : attributeBase (.Name y py) (gX k) X.env (eval (.Name y py) X.env) = eval (.Name y py) X.env := by rfl) : XV X (.Attribute (.Name y py) (gX k) pos) (vFld i k) :=
  (pe_fld hv hb).weak fun σ H Q ⟨G, H0, δ, r, δ', eK, R, e, q⟩ => by
    simp only [vFld] at e
    split at e
    · cases e
    · rename_i hk
      simp only [Option.bind_eq_some_iff, Option.map_eq_some_iff] at e
      obtain ⟨fs, e1, d, e2, e3⟩ := e
      cases e3
      exact fld_read T hk eK R e1 e2 fun v r => q v _ _ R (Sub.refl _) r
theorem row_read (T : GT X.K) {G : Gx} {A H : Hp} {δ : Env} {σ : L2.St} {fs ds : List D} {Q : VK} (eK : G.K = X.K) (R : Rl G A H δ σ) (e : (obAt δ i).bind rowOf = some ds) (q : ∀ p rs, H p = some (.lst rs) → RelAll G.K A rs ds → Q (.ref p) H) : tFld X.K (tVar i) (gX 1) σ H Q := by
  simp only [Option.bind_eq_some_iff] at e
  obtain ⟨fs, e1, e2⟩ := e
  obtain ⟨s, p, q', x1, x2, x3, x4, x5, x6⟩ := ob_at R e1
  obtain ⟨dx, l, rs, y1, y2, y3, y4⟩ := x6.row_ e2
  refine ⟨.ref p, x5, p, _, dx, l, _, rfl, y1, ?_, ?_, y2, q _ rs y3 y4⟩
  · rw [eK]
    exact T.cls
  · rw [eK]
    exact T.no 1
/-- len(x.row) -/
theorem x_flen (T : GT X.K) (hv : PE X (.Name y py) (tVar i)) {ap : Pos} {p : Pos} (hg : Gl X "len") (hm : X.mg "len" = none) (hvv : bootBuiltins "len" = some (.builtin "len")) (hb : attributeBase (.Name y py) (gX 1) X.env (eval (.Name y py) X.env) = eval (.Name y py) X.env := by rfl)
    (h1 : starEach [.Attribute (.Name y py) (gX 1) ap] X.env = (false, eval (.Attribute (.Name y py) (gX 1) ap) X.env) :: starEach [] X.env := by rfl) (h2 : (backTo pos (starEach [] X.env)).any (·.1) = false := by rfl) :
    XV X (.Call (.Name "len" p) [.Attribute (.Name y py) (gX 1) ap] [] pos) (vFLen i) :=
  (pe_callB call_len_seq hg hm hvv (pa_cons (pe_fld hv hb) pa_nil h1) (by decide) (by decide) h1 h2).weak fun σ H Q ⟨G, H0, δ, r, δ', eK, R, e, q⟩ => by
    simp only [vFLen, Option.map_eq_some_iff] at e
    obtain ⟨ds, e1, e2⟩ := e
    cases e2
    refine row_read (fs := []) T eK R e1 fun p rs y3 y4 => ?_
    exact ⟨p, rs, rfl, .inl (SqL.of y3), q _ _ _ R (Sub.refl _) (by rw [y4.length]; exact .int _)⟩
/-- tuple(x.row) -/
theorem x_ftup (T : GT X.K) (hv : PE X (.Name y py) (tVar i)) {ap : Pos} {p : Pos} (hg : Gl X "tuple") (hm : X.mg "tuple" = none) (hvv : bootBuiltins "tuple" = some (.type "tuple")) (hb : attributeBase (.Name y py) (gX 1) X.env (eval (.Name y py) X.env) = eval (.Name y py) X.env := by rfl)
    (h1 : starEach [.Attribute (.Name y py) (gX 1) ap] X.env = (false, eval (.Attribute (.Name y py) (gX 1) ap) X.env) :: starEach [] X.env := by rfl) (h2 : (backTo pos (starEach [] X.env)).any (·.1) = false := by rfl) :
    XV X (.Call (.Name "tuple" p) [.Attribute (.Name y py) (gX 1) ap] [] pos) (vFTup i) :=
  (pe_callTy call_tuple_of hg hm hvv (pa_cons (pe_fld hv hb) pa_nil h1) (by decide) (by decide) h1 h2).weak fun σ H Q ⟨G, H0, δ, r, δ', eK, R, e, q⟩ => by
    simp only [vFTup, Option.map_eq_some_iff] at e
    obtain ⟨ds, e1, e2⟩ := e
    cases e2
    refine row_read (fs := []) T eK R e1 fun p rs y3 y4 => ?_
    refine ⟨p, rs, rfl, .inl ⟨SqL.of y3, fun l hl => ?_⟩⟩
    obtain ⟨R2, s2⟩ := R.laid0 (o := .tup rs) hl
    exact q _ _ _ R2 s2 (.tup (SqT.of upd_same) (y4.sub s2))
/-- x.row[-z] -/
theorem x_fix (T : GT X.K) (hv : PE X (.Name y py) (tVar i)) {ap : Pos} {z : Str} {pz up : Pos} (hz : PE X (.Name z pz) (tVar j)) (hb : attributeBase (.Name y py) (gX 1) X.env (eval (.Name y py) X.env) = eval (.Name y py) X.env := by rfl)
    (hp : PlainIx (.UnaryOp .USub (.Name z pz) up) := by exact fun _ _ => rfl) : XV X (.Subscript (.Attribute (.Name y py) (gX 1) ap) (.UnaryOp .USub (.Name z pz) up) pos) (vFIx i j) :=
  (pe_ix ix_any (pe_fld hv hb) (pe_un un_neg hz) hp).weak fun σ H Q ⟨G, H0, δ, r, δ', eK, R, e, q⟩ => by
    simp only [vFIx, Option.bind_eq_some_iff] at e
    obtain ⟨ds, e1, e2⟩ := e
    cases ez : δ[j]? with
    | none =>
      rw [ez] at e2
      cases e2
    | some s =>
      rw [ez] at e2
      have sj := R.slot j s ez
      cases s with
      | dat d =>
        cases d with
        | int b =>
          simp only [Option.map_eq_some_iff] at e2
          obtain ⟨d, e3, e4⟩ := e2
          cases e4
          obtain ⟨v, x1, x2⟩ := sj
          cases x2
          refine row_read (fs := []) T eK R (by rw [Option.bind_eq_some_iff]; exact e1) fun p rs y3 y4 => ?_
          refine ⟨_, x1, b, rfl, ?_⟩
          exact s_ix G H0 H δ σ (.ref p) (.int (-b)) (.list ds) (.int (-b)) (.dat d) eK R (.inr ⟨p, rs, ds, rfl, rfl, y3, y4⟩) (.inl (.int _)) (by simp only [bIx, e3, Option.map_some]) Q fun v A B R1 s1 k1 => q v A B R1 s1 k1
        | _ => cases e2
      | _ => cases e2
/-- x.f = e -/
theorem xs_fld {e : Expr} {f : Ev} (T : GT X.K) (hv : PE X (.Name y py) (tVar i)) (he : XV X e f) (hs : swapsWith e (some (.Attribute (.Name y py) (gX k) ap)) pos.line X.env = pure false := by rfl) : XS X (.Assign [.Attribute (.Name y py) (gX k) ap] e pos) (IP.sFld i k f) :=
  (ps_fld hv he hs).weak fun D σ H ⟨G, H0, δ, o, δ', eK, R, e0, q⟩ => by
    simp only [IP.sFld] at e0
    split at e0
    · cases e0
    · rename_i hk
      simp only [Option.bind_eq_some_iff] at e0
      obtain ⟨⟨r, δ1⟩, e1, fs, e2, e3⟩ := e0
      split at e3
      · rename_i hl
        cases e3
        refine ⟨G, H0, δ, r, δ1, eK, R, e1, fun v A H1 R1 s1 k1 => ?_⟩
        obtain ⟨A2, R2, s2, k2⟩ := R1.toD k1
        obtain ⟨s, p, q', x1, x2, x3, x4, x5, x6⟩ := ob_at R2 e2
        obtain ⟨dx, l, y1, y2, y3⟩ := x6.setF hk hl k2
        refine ⟨.ref p, x5, p, _, dx, l, rfl, y1, ?_, ?_, by rw [y2]; decide, ?_⟩
        · rw [eK]
          exact T.cls
        · rw [eK]
          exact T.no k
        · exact q σ A2 _ (R2.oneOb x1 x3 x5 x6 (.inl rfl) y3) (s1.trans s2)
      · cases e3
/-- x.row.append(z) -/
theorem xs_fapp (T : GT X.K) (hv : PE X (.Name y py) (tVar i)) {mp : Pos} {z : Str} {pz : Pos} (hz : PE X (.Name z pz) (tVar j)) (hb : attributeBase (.Name y py) (gX 1) X.env (eval (.Name y py) X.env) = eval (.Name y py) X.env := by rfl)
    (hs : starEach [.Name z pz] X.env = (false, eval (.Name z pz) X.env) :: starEach [] X.env := by rfl)
    (hbase : attributeBase (.Attribute (.Name y py) (gX 1) ap) "append" X.env (eval (.Attribute (.Name y py) (gX 1) ap) X.env) = eval (.Attribute (.Name y py) (gX 1) ap) X.env := by rfl)
    (hfew : ((backTo cp (starEach [.Name z pz] X.env)).all (fun x => !x.1) && (backToKw cp (keywordEach [] X.env)).all (fun x => x.1.isSome)
      && decide ([Expr.Name z pz].length + ([] : List Keyword).length + (if ([] : List Keyword).isEmpty then 0 else 1) < 30)) = true := by rfl)
    (hline : (mp.endLine == cp.line) = true := by rfl) (hplain : (backTo cp (starEach [] X.env)).any (·.1) = false := by rfl) (hsw : swapsWith (.Call (.Attribute (.Attribute (.Name y py) (gX 1) ap) "append" mp) [.Name z pz] [] cp) none pos.line X.env = pure false := by rfl) :
    XS X (.Expr (.Call (.Attribute (.Attribute (.Name y py) (gX 1) ap) "append" mp) [.Name z pz] [] cp) pos) (sFApp i j) :=
  (ps_expr (pe_bm PySem.F.plainAttrs_list PySem.F.slot_list_append PySem.F.type_list_append mt_append (pe_fld hv hb) (pa_cons hz pa_nil hs) hbase hfew hline hs hplain) hsw).weak fun D σ H ⟨G, H0, δ, o, δ', eK, R, e, q⟩ => by
    simp only [sFApp, Option.bind_eq_some_iff] at e
    obtain ⟨fs, e1, e2⟩ := e
    cases ez : δ[j]? with
    | none =>
      rw [ez] at e2
      cases e2
    | some s =>
      rw [ez] at e2
      have sj := R.slot j s ez
      cases s with
      | dat d =>
        simp only [Option.map_eq_some_iff] at e2
        obtain ⟨gs, e3, e4⟩ := e2
        cases e4
        obtain ⟨v, z1, z2⟩ := sj
        obtain ⟨s, p, q', x1, x2, x3, x4, x5, x6⟩ := ob_at R e1
        obtain ⟨rs, y1, y2, y3⟩ := x6.putR e3 z2
        have hr : ∃ ds, (obAt δ i).bind rowOf = some ds := by
          rw [e1]
          obtain ⟨dx, v0, v2, v3, v4, v5, rs, d0, ds, d2, d3, d4, d5, h⟩ := x6
          have hf := h.fs
          subst hf
          exact ⟨ds, rfl⟩
        obtain ⟨ds, hr⟩ := hr
        have hq : RowOf H p q' := x6.row
        obtain ⟨dx, l, rs', w1, w2, w3, w4⟩ := x6.row_ (show rowOf fs = some ds by rw [e1] at hr; exact hr)
        refine ⟨.ref p, x5, p, _, dx, l, _, rfl, w1, ?_, ?_, w2, ?_⟩
        · rw [eK]
          exact T.cls
        · rw [eK]
          exact T.no 1
        · refine ⟨.inl ⟨rfl, _, SqL.of y1⟩, v, z1, q', rs, v, rfl, rfl, y1, Nat.lt_of_lt_of_le y2 (line_le (Nat.le_refl _)), ?_⟩
          exact q σ H0 _ (R.oneOb x1 x3 x5 x6 (.inr rfl) y3) (Sub.refl _)
      | _ => cases e2
/-- x.f op= e -/
theorem xs_faug {op : Operator} {b : Int → Int → Int} {rd : V → V → Hp → VK → Prop} {e : Expr} {f : Eo} (T : GT X.K) (hv : PE X (.Name y py) (tVar i)) (he : XO X e f) (ho : InOp X op rd) (hrd : ∀ (m n : Int) (H : Hp) (Q : VK), Q (.int (b m n)) H → rd (.int m) (.int n) H Q) : XS X (.AugAssign (.Attribute (.Name y py) (gX k) ap) op e pos) (sFAug i k b f) :=
  (ps_fldaug hv he ho).weak fun D σ H ⟨G, H0, δ, o, δ', eK, R, e0, q⟩ => by
    simp only [sFAug] at e0
    split at e0
    · cases e0
    · rename_i hk
      simp only [Option.bind_eq_some_iff] at e0
      obtain ⟨fs, e1, e2⟩ := e0
      cases ef : fs[k]? with
      | none =>
        rw [ef] at e2
        cases e2
      | some d =>
        rw [ef] at e2
        cases d with
        | int a =>
          simp only [Option.bind_eq_some_iff] at e2
          obtain ⟨⟨o1, δ1⟩, e3, e4⟩ := e2
          obtain ⟨s, p, q', x1, x2, x3, x4, x5, x6⟩ := ob_at R e1
          obtain ⟨dx, l, v, y1, y2, y3⟩ := x6.fld hk ef
          cases y3
          refine ⟨.ref p, x5, p, _, dx, l, _, rfl, y1, ?_, ?_, y2, G, H0, δ, o1, δ1, eK, R, e3, fun w A H1 R1 s1 k1 => ?_⟩
          · rw [eK]
            exact T.cls
          · rw [eK]
            exact T.no k
          · cases o1 with
            | «at» _ => cases e4
            | val d =>
              cases d with
              | int c =>
                simp only [Option.bind_eq_some_iff] at e4
                obtain ⟨gs, e5, e6⟩ := e4
                split at e6
                · rename_i hl
                  cases e6
                  cases k1
                  refine hrd a c H1 _ ?_
                  obtain ⟨s', p', q'', z1, z2, z3, z4, z5, z6⟩ := ob_at R1 e5
                  rw [x5] at z5
                  cases z5
                  obtain ⟨dx', l', w1, w2, w3⟩ := z6.setF (v := .int (b a c)) (d := .int (b a c)) hk hl (.int _)
                  exact ⟨dx', l', w1, by rw [w2]; decide, q σ A _ (R1.oneOb z1 z3 x5 z6 (.inl rfl) w3) s1⟩
                · cases e6
              | _ => cases e4
        | _ => cases e2
/-! ### calls -/
section
variable {c : Fnc} {A : Ea} {CX : CXT} {kk : Nat} {fa : Addr} {fd : FuncData} {ps : List Str} {E : XK} {x m : Str} {p : Pos} {e : Expr} {es : List Expr}
theorem methG_ok {G : Gx} {A0 H : Hp} {δ : Env} {σ : L2.St} {pp : Addr} {vs : List V} {ds : List D} {fs gs : List D} {r : Res} {Q : VK} (R : Rl G A0 H δ σ) (hp : σ[i]? = some (some (.ref pp))) (ra : RelAll G.K A0 vs ds) (e1 : obAt δ i = some fs) (e2 : c (some fs) ds = some (r, some gs))
    (q : ∀ v B H', Rl G B H' (obPut δ i gs) σ → Sub A0 B → ResOk G B H' (obPut δ i gs) σ r v → Q v H') : spG G.K c (.ref pp :: vs) H Q E := by
  obtain ⟨s, p, q', x1, x2, x3, x4, x5, x6⟩ := ob_at R e1
  rw [hp] at x5
  cases x5
  refine ⟨A0, ds, r, pp, q', fs, gs, vs, R.sub, rfl, ra, x6, e2, fun v B H' h1 h2 h3 h4 h5 h6 => ?_⟩
  have R2 := R.growOb x1 x3 hp x6 h3 h1 h2 h4 h5
  refine q v B H' R2 h1 ?_
  cases r with
  | dat d => exact h6
  | new es =>
    obtain ⟨z, us, y1, y2, y3, y4, y5⟩ := h6
    have f := R.fresh y5
    refine ⟨z, us, y1, y2, y3, y4, f.2.1, fun j hj => ?_⟩
    obtain ⟨s', ep, hob', how', hpr', hs'⟩ := obPut_get (gs := gs) x1 x3
    rw [ep] at hj
    obtain ⟨u, u1, u2, pj, u3, u4⟩ := hj
    have pnz : pp ≠ z := fun w => by
      obtain ⟨C, dx, l, e⟩ := x6.hp
      rw [w, y5] at e
      cases e
    have qnz : q' ≠ z := fun w => by
      obtain ⟨rs, e⟩ := x6.hq
      rw [w, y5] at e
      cases e
    by_cases hij : i = j
    · subst hij
      rw [hp] at u3
      cases u3
      rcases u4 with u4 | ⟨_, u4⟩
      · exact pnz u4.symm
      · exact qnz (h5.row.inj u4)
    · rw [List.getElem?_set_ne hij] at u1
      refine f.2.2 j ⟨u, u1, u2, pj, u3, ?_⟩
      rcases u4 with u4 | ⟨u4, u5⟩
      · exact .inl u4
      · obtain ⟨qj, fj, obj_, _⟩ := R.ob u1 u4 u3
        have n1 : pj ≠ pp := fun w => by
          subst w
          exact hij (R.inj i j pj (Holds.of x1 x2 hp) (Holds.of u1 u2 u3))
        have n2 : pj ≠ q' := fun w => by
          subst w
          exact hij (R.inj i j pj (Holds.ofRow x1 x2 x3 hp x6.row) (Holds.of u1 u2 u3))
        have r := obj_.row.in (H' := H') fun o eo _ => h3 pj o eo n1 n2
        rw [u5.inj r]
        exact .inr ⟨u4, obj_.row⟩
/-- x.m(e, ..) -/
theorem x_meth {pl : Sem Bool} (hT : GT X.K) (hm : Meth X.K (GC X.K) m fa) (hf : gFree m) (F : FnOk X.prog X.w X.K X.mg X.base CX kk fa fd ps (spG X.K c)) (hr : Room kk X.A) (hb : Binds X.K fd ps []) (hx : Passes CX X E) (hv : PE X (.Name y py) (tVar i)) (ha : XA X (e :: es) A)
    (hst : starEach (e :: es) X.env = (false, eval e X.env) :: starEach es X.env := by rfl) (hpl : (backTo pos (starEach es X.env)).any (·.1) = false := by rfl)
    (ht : eval (.Call (.Attribute (.Name y py) m ap) (e :: es) [] pos) X.env = (do
      let ov ← eval (.Name y py) X.env
      standAt ap.atName
      let (f, first) ← holding [ov] (getMethod ov m pl)
      callWith pos f first (backTo pos (starEach (e :: es) X.env)) (backToKw pos (keywordEach [] X.env))) := by rfl) :
    XV X (.Call (.Attribute (.Name y py) m ap) (e :: es) [] pos) (vMeth c i A) :=
  (pe_meth (pl := pl) hv hT.cls hm F hr hb .nil hx ha hst hpl ht).weak fun σ H Q ⟨G, H0, δ, r, δ', eK, R, e0, q⟩ => by
    simp only [vMeth, Option.bind_eq_some_iff] at e0
    obtain ⟨fs0, e1, ⟨os, δ1⟩, e2, ds, e3, fs, e4, ⟨r', out⟩, e5, e6⟩ := e0
    cases out with
    | none => cases e6
    | some gs =>
      cases e6
      obtain ⟨s, p, q', x1, x2, x3, x4, x5, x6⟩ := ob_at R e1
      obtain ⟨dx, v0, v2, v3, v4, v5, rs, d0, dss, d2, d3, d4, d5, h⟩ := x6
      refine ⟨.ref p, x5, p, dx, _, rfl, by rw [← eK]; exact h.hp, gFree_look hf _ _ _ _ _ _, G, H0, δ, os, δ1, eK, R, e2, fun vs A1 H1 R1 s1 k1 => ?_⟩
      show spG X.K c (.ref p :: (vs ++ [])) H1 Q E
      rw [← eK, List.append_nil]
      exact methG_ok R1 x5 (k1.vals e3) e4 e5 fun v B H' R2 s2 k2 => q v B H' R2 (s1.trans s2) k2
/-- x.m() -/
theorem x_meth0 {pl : Sem Bool} (hT : GT X.K) (hm : Meth X.K (GC X.K) m fa) (hf : gFree m) (F : FnOk X.prog X.w X.K X.mg X.base CX kk fa fd ps (spG X.K c)) (hr : Room kk X.A) (hb : Binds X.K fd ps []) (hx : Passes CX X E) (hv : PE X (.Name y py) (tVar i))
    (ht : eval (.Call (.Attribute (.Name y py) m ap) [] [] pos) X.env = (do
      let ov ← eval (.Name y py) X.env
      standAt ap.atName
      let (f, first) ← holding [ov] (getMethod ov m pl)
      callWith pos f first (backTo pos (starEach [] X.env)) (backToKw pos (keywordEach [] X.env))) := by rfl) :
    XV X (.Call (.Attribute (.Name y py) m ap) [] [] pos) (vMeth c i aNil) :=
  (pe_meth0 (pl := pl) hv hT.cls hm F hr hb .nil hx ht).weak fun σ H Q ⟨G, H0, δ, r, δ', eK, R, e0, q⟩ => by
    simp only [vMeth, Option.bind_eq_some_iff] at e0
    obtain ⟨fs0, e1, ⟨os, δ1⟩, e2, ds, e3, fs, e4, ⟨r', out⟩, e5, e6⟩ := e0
    cases e2
    cases e3
    cases out with
    | none => cases e6
    | some gs =>
      cases e6
      obtain ⟨s, p, q', x1, x2, x3, x4, x5, x6⟩ := ob_at R e1
      obtain ⟨dx, v0, v2, v3, v4, v5, rs, d0, dss, d2, d3, d4, d5, h⟩ := x6
      refine ⟨.ref p, x5, p, dx, _, rfl, by rw [← eK]; exact h.hp, gFree_look hf _ _ _ _ _ _, ?_⟩
      show spG X.K c (.ref p :: ([] ++ [])) H Q E
      rw [← eK, List.append_nil]
      exact methG_ok R x5 .nil e4 e5 fun v B H' R2 s2 k2 => q v B H' R2 s2 k2
/-- f(x, e, ..) -/
theorem x_callG (F : FnOk X.prog X.w X.K X.mg X.base CX kk fa fd ps (spG X.K c)) (hr : Room kk X.A) (hg : Gl X x) (hm : X.mg x = some (.ref fa)) (hk : PySem.W.keepIn X.K (.ref fa) = true) (hb : Binds X.K fd ps []) (hx : Passes CX X E)
    (hv : PE X (.Name y py) (tVar i)) (ha : XA X es A) (hs : starEach (.Name y py :: es) X.env = (false, eval (.Name y py) X.env) :: starEach es X.env := by rfl) (hdb : (x == ("__debug__" : Str)) = false := by decide) (hpl : (backTo pos (starEach es X.env)).any (·.1) = false := by rfl) :
    XV X (.Call (.Name x p) (.Name y py :: es) [] pos) (vMeth c i A) := (pe_call F hr hg hm hk hb .nil hx (pa_cons hv ha hs) hdb hs hpl).weak fun σ H Q ⟨G, H0, δ, r, δ', eK, R, e0, q⟩ => by
    simp only [vMeth, Option.bind_eq_some_iff] at e0
    obtain ⟨fs0, e1, ⟨os, δ1⟩, e2, ds, e3, fs, e4, ⟨r', out⟩, e5, e6⟩ := e0
    cases out with
    | none => cases e6
    | some gs =>
      cases e6
      obtain ⟨s, p, q', x1, x2, x3, x4, x5, x6⟩ := ob_at R e1
      refine ⟨.ref p, x5, G, H0, δ, os, δ1, eK, R, e2, fun vs A1 H1 R1 s1 k1 => ?_⟩
      show spG X.K c (.ref p :: vs ++ []) H1 Q E
      rw [← eK, List.append_nil]
      exact methG_ok R1 x5 (k1.vals e3) e4 e5 fun v B H' R2 s2 k2 => q v B H' R2 (s1.trans s2) k2
/-- the reading of a call that gives a new object -/
def kN (K : PySem.W.Frag) (c : Fnc) (A : Ea) : TE := fun σ H Q => ∃ G H0 δ os δ1 ds r fs, G.K = K ∧ Rl G H0 H δ σ ∧ A δ = some (os, δ1) ∧ vals os = some ds ∧ c none ds = some (r, some fs) ∧
  ∀ p q H0' H', Rl G H0' H' δ1 σ → Sub H0 H0' → ObAt K H0' H' p q fs → G.H p = none → G.H q = none → (∀ i, ¬ Holds H' δ1 σ i p) → (∀ i, ¬ Holds H' δ1 σ i q) → Q (.ref p) H'
theorem callN_ok {G : Gx} {H0 H : Hp} {δ1 : Env} {σ : L2.St} {vs : List V} {ds : List D} {r : Res} {fs : List D} {Q : VK} {E : XK} (R : Rl G H0 H δ1 σ) (ra : RelAll G.K H0 vs ds) (e : c none ds = some (r, some fs))
    (q : ∀ p q H0' H', Rl G H0' H' δ1 σ → Sub H0 H0' → ObAt G.K H0' H' p q fs → G.H p = none → G.H q = none → (∀ i, ¬ Holds H' δ1 σ i p) → (∀ i, ¬ Holds H' δ1 σ i q) → Q (.ref p) H') : spN G.K c vs H Q E :=
  ⟨H0, ds, r, fs, R.sub, ra, e, fun p q' B H' h1 h2 h3 h4 h5 h6 h7 => by
    have f := R.fresh h6
    have f' := R.fresh h7
    exact q p q' B H' (R.grow h3 h1 h2 h4) h1 h5 f.2.1 f'.2.1 (fun i h => f.2.2 i (R.holdsOf (keep_sub h3) h)) (fun i h => f'.2.2 i (R.holdsOf (keep_sub h3) h))⟩
theorem x_callN (F : FnOk X.prog X.w X.K X.mg X.base CX kk fa fd ps (spN X.K c)) (hr : Room kk X.A) (hg : Gl X x) (hm : X.mg x = some (.ref fa)) (hk : PySem.W.keepIn X.K (.ref fa) = true) (hb : Binds X.K fd ps []) (hx : Passes CX X E)
    (ha : XA X (e :: es) A) (hdb : (x == ("__debug__" : Str)) = false := by decide) (he : starEach (e :: es) X.env = (false, eval e X.env) :: starEach es X.env := by rfl) (hpl : (backTo pos (starEach es X.env)).any (·.1) = false := by rfl) :
    PE X (.Call (.Name x p) (e :: es) [] pos) (kN X.K c A) := (pe_call F hr hg hm hk hb .nil hx ha hdb he hpl).weak fun σ H Q ⟨G, H0, δ, os, δ1, ds, r, fs, eK, R, e1, e2, e3, q⟩ => by
  refine ⟨G, H0, δ, os, δ1, eK, R, e1, fun vs A1 H1 R1 s1 k1 => ?_⟩
  show spN X.K c (vs ++ []) H1 Q E
  rw [← eK, List.append_nil]
  exact callN_ok R1 (k1.vals e2) e3 fun p q' B H' R2 s2 ob g1 g2 n1 n2 => q p q' B H' R2 (s1.trans s2) (eK ▸ ob) g1 g2 n1 n2
/-- Growth(e) -/
theorem x_mkN {fI : Addr} (hG : c = (fun _ _ => none) ∨ (Room 2 X.A ∧ c = newG)) (M : Mk X.K (GC X.K) fI) (F : FnOk X.prog X.w X.K X.mg X.base CX 1 fI fd ps (spInit X.K)) (hg : Gl X x) (hm : X.mg x = some (.ref (GC X.K))) (hb : Binds X.K fd ps []) (hx : Passes CX X E)
    (ha : XA X [e] A) (hdb : (x == ("__debug__" : Str)) = false := by decide) (he : starEach [e] X.env = (false, eval e X.env) :: starEach [] X.env := by rfl) (hpl : (backTo pos (starEach [] X.env)).any (·.1) = false := by rfl) :
    PE X (.Call (.Name x p) [e] [] pos) (kN X.K c A) := by
  rcases hG with hG | ⟨hr, hG⟩
  · refine ⟨fun pins s σ H Q I ⟨G, H0, δ, os, δ1, ds, r, fs, eK, R, e1, e2, e3, q⟩ => ?_⟩
    rw [hG] at e3
    cases e3
  · refine (pe_make M F hr hg hm hb .nil hx ha hdb he hpl).weak fun σ H Q ⟨G, H0, δ, os, δ1, ds, r, fs, eK, R, e1, e2, e3, q⟩ => ?_
    refine ⟨G, H0, δ, os, δ1, eK, R, e1, fun vs A1 H1 R1 s1 k1 => ?_⟩
    have ra := k1.vals e2
    rw [hG] at e3
    cases ds with
    | nil => cases e3
    | cons d ds =>
      cases ds with
      | cons _ _ => cases e3
      | nil =>
        cases e3
        cases ra with
        | cons rv rn =>
          cases rn
          intro xx dx hxx hdx hne
          refine ⟨xx, dx, _, rfl, upd_same, fun q' l o H' n1 n2 n3 d1 d2 d3 e1 e2 e3 e4 keep => ⟨rfl, ?_⟩⟩
          have low : ∀ {a : Addr}, upd (upd H1 dx (.own xx)) xx (.ins (GC X.K) dx []) a = none → H1 a = none ∧ a ≠ xx := fun {a} h => by
            have ha : a ≠ xx := fun z => by
              rw [z, upd_same] at h
              cases h
            rw [upd_ne ha] at h
            have hb : a ≠ dx := fun z => by
              rw [z, upd_same] at h
              cases h
            rw [upd_ne hb] at h
            exact ⟨h, ha⟩
          have m1 := low n1
          have m2 := low n2
          have m3 := low n3
          have hH : Sub H1 H' := fun a u e => keep a u (by
            rw [upd_ne (ne_of_none e hxx), upd_ne (ne_of_none e hdx)]
            exact e) (ne_of_none e hxx)
          have a2 := (R1.fresh m2.1).1
          have a3 := (R1.fresh m3.1).1
          let B : Hp := upd (upd A1 l (.lst [.int 1])) o (.lst [.int 1])
          have hB : Sub A1 B := fun a u e => by
            show upd (upd A1 l (.lst [.int 1])) o (.lst [.int 1]) a = some u
            rw [upd_ne (ne_of_none e a3), upd_ne (ne_of_none e a2)]
            exact e
          have hBH : Sub B H' := fun a u e => by
            have e' : upd (upd A1 l (.lst [.int 1])) o (.lst [.int 1]) a = some u := e
            by_cases h1 : a = o
            · subst h1
              rw [upd_same] at e'
              cases e'
              exact e4
            · rw [upd_ne h1] at e'
              by_cases h2 : a = l
              · subst h2
                rw [upd_same] at e'
                cases e'
                exact e3
              · rw [upd_ne h2] at e'
                exact hH a u (R1.sub a u e')
          have hF : Fro A1 H1 B := fun a u e => by
            have e' : upd (upd A1 l (.lst [.int 1])) o (.lst [.int 1]) a = some u := e
            by_cases h1 : a = o
            · rw [h1]
              exact .inr m3.1
            · rw [upd_ne h1] at e'
              by_cases h2 : a = l
              · rw [h2]
                exact .inr m2.1
              · rw [upd_ne h2] at e'
                exact .inl ⟨u, e'⟩
          have R2 := R1.grow hH hB hBH hF
          have bo : B o = some (.lst [.int 1]) := upd_same
          have bl : B l = some (.lst [.int 1]) := by
            show upd (upd A1 l (.lst [.int 1])) o (.lst [.int 1]) l = _
            rw [upd_ne d3, upd_same]
          have np : B xx = none := by
            show upd (upd A1 l (.lst [.int 1])) o (.lst [.int 1]) xx = none
            rw [upd_ne (Ne.symm m3.2), upd_ne (Ne.symm m2.2)]
            exact R1.sub.none hxx
          have nq : B q' = none := by
            show upd (upd A1 l (.lst [.int 1])) o (.lst [.int 1]) q' = none
            rw [upd_ne d2, upd_ne d1]
            exact R1.sub.none m1.1
          have f := R1.fresh hxx
          have f' := R1.fresh m1.1
          refine q xx q' B H' R2 (s1.trans hB) ⟨dx, _, _, _, _, _, [], _, [], _, _, _, _, rfl, e1, e2, .nil, ?_, .int 0, .lst bl (.cons (.int 1) .nil), .lst bo (.cons (.int 1) .nil), .int 1, np, nq⟩ f.2.1 f'.2.1 (fun i h => f.2.2 i (R1.holdsOf (keep_sub hH) h)) (fun i h => f'.2.2 i (R1.holdsOf (keep_sub hH) h))
          rw [← eK]
          exact rv.sub hB
/-- x = f(e, ..) -/
theorem xs_callN {y : Str} {pos' : Pos} {e0 : Expr} (hN : X.N.Nodup) (hi : X.N[i]? = some y) (hx : Loc X.env.scope y) (h : PE X e0 (kN X.K c A)) (hs : swapsWith e0 (some (.Name y pos')) pos.line X.env = pure false := by rfl)
    (hf : X.fn y = true ∨ X.env.scope.names.lookup y = some .local := by first | exact .inl rfl | exact .inr rfl | assumption) : XS X (.Assign [.Name y pos'] e0 pos) (sCallN i c A) :=
  (ps_set hN hi hx h hs hf).weak fun D σ H ⟨G, H0, δ, o, δ', eK, R, e, q⟩ => by
    simp only [sCallN, Option.bind_eq_some_iff] at e
    obtain ⟨⟨os, δ1⟩, e1, ds, e2, ⟨r, out⟩, e3, e4⟩ := e
    cases out with
    | none => cases e4
    | some fs =>
      simp only [Option.map_eq_some_iff] at e4
      obtain ⟨δ2, e5, e6⟩ := e4
      cases e6
      refine ⟨G, H0, δ, os, δ1, ds, r, fs, eK, R, e1, e2, e3, fun p q' A1 H' R1 s1 ob g1 g2 n1 n2 => ?_⟩
      have hlt := setSlot_lt e5
      rw [← R1.len] at hlt
      refine q _ A1 H' (Rl.set R1 e5 ⟨p, q', List.getElem?_set_self hlt, eK ▸ ob, g1, g2⟩ rfl (fun _ a ha j => ?_)) s1
      obtain ⟨p', y1, y2⟩ := ha
      rw [List.getElem?_set_self hlt] at y1
      cases y1
      rcases y2 with rfl | ⟨_, y2⟩
      · exact n1 j
      · rw [y2.inj ob.row]
        exact n2 j
/-- f(e, ..).f -/
theorem x_callNFld {e0 : Expr} (T : GT X.K) (h : PE X e0 (kN X.K c A)) (hb : attributeBase e0 (gX k) X.env (eval e0 X.env) = eval e0 X.env := by rfl) : XV X (.Attribute e0 (gX k) pos) (vCallNFld c A k) :=
  (pe_fld h hb).weak fun σ H Q ⟨G, H0, δ, r, δ', eK, R, e, q⟩ => by
    simp only [vCallNFld] at e
    split at e
    · cases e
    · rename_i hk
      simp only [Option.bind_eq_some_iff] at e
      obtain ⟨⟨os, δ1⟩, e1, ds, e2, ⟨r, out⟩, e3, e4⟩ := e
      cases out with
      | none => cases e4
      | some fs =>
        simp only [Option.map_eq_some_iff] at e4
        obtain ⟨d, e5, e6⟩ := e4
        cases e6
        refine ⟨G, H0, δ, os, _, ds, r, fs, eK, R, e1, e2, e3, fun p q' A1 H' R1 s1 ob g1 g2 n1 n2 => ?_⟩
        obtain ⟨dx, l, v, y1, y2, y3⟩ := ob.fld hk e5
        exact ⟨p, _, dx, l, v, rfl, y1, T.cls, T.no k, y2, q v _ _ R1 s1 (show Rel G.K A1 v d by rw [eK]; exact y3)⟩
/-- f(e, ..).m() -/
theorem x_callNMeth {pl : Sem Bool} {e0 : Expr} {mc : Fnc} (hT : GT X.K) (hm : Meth X.K (GC X.K) m fa) (hf : gFree m) (F : FnOk X.prog X.w X.K X.mg X.base CX kk fa fd ps (spG X.K mc)) (hr : Room kk X.A) (hb : Binds X.K fd ps []) (hx : Passes CX X E) (h : PE X e0 (kN X.K c A))
    (ht : eval (.Call (.Attribute e0 m ap) [] [] pos) X.env = (do
      let ov ← eval e0 X.env
      standAt ap.atName
      let (f, first) ← holding [ov] (getMethod ov m pl)
      callWith pos f first (backTo pos (starEach [] X.env)) (backToKw pos (keywordEach [] X.env))) := by rfl) :
    XV X (.Call (.Attribute e0 m ap) [] [] pos) (vCallNMeth c A mc) :=
  (pe_meth0 (pl := pl) h hT.cls hm F hr hb .nil hx ht).weak fun σ H Q ⟨G, H0, δ, r, δ', eK, R, e, q⟩ => by
    simp only [vCallNMeth, Option.bind_eq_some_iff] at e
    obtain ⟨⟨os, δ1⟩, e1, ds, e2, ⟨r1, out⟩, e3, e4⟩ := e
    cases out with
    | none => cases e4
    | some fs =>
      simp only [Option.bind_eq_some_iff] at e4
      obtain ⟨⟨r2, out2⟩, e5, e6⟩ := e4
      cases out2 with
      | none => cases e6
      | some gs =>
        cases e6
        refine ⟨G, H0, δ, os, _, ds, r1, fs, eK, R, e1, e2, e3, fun p q' A1 H' R1 s1 ob g1 g2 n1 n2 => ?_⟩
        obtain ⟨dx, v0, v2, v3, v4, v5, rs, d0, dss, d2, d3, d4, d5, hh⟩ := id ob
        refine ⟨p, dx, _, rfl, hh.hp, gFree_look hf _ _ _ _ _ _, ?_⟩
        show spG X.K mc (.ref p :: ([] ++ [])) H' Q E
        rw [List.append_nil]
        refine ⟨A1, [], r2, p, q', fs, gs, [], R1.sub, rfl, .nil, ob, e5, fun v B H'' h1 h2 h3 h4 h5 h6 => ?_⟩
        -- the object is left behind
        have kl : ∀ a o, Holds H' δ' σ o a → a ≠ p ∧ a ≠ q' := fun a o ho => ⟨fun z => n1 o (z ▸ ho), fun z => n2 o (z ▸ ho)⟩
        have R2 : Rl G B H'' δ' σ := by
          have nf : ∀ a u, H' a = some u → A1 a = none → B a = none := fun a u e n => by
            cases z : B a with
            | none => rfl
            | some w =>
              rcases h4 a w z with ⟨w', hw⟩ | hw
              · rw [n] at hw
                cases hw
              · rw [e] at hw
                cases hw
          have back : ∀ i a, Holds H'' δ' σ i a → Holds H' δ' σ i a := fun i a ⟨s, u1, u2, pj, u3, u4⟩ => by
            refine ⟨s, u1, u2, pj, u3, ?_⟩
            rcases u4 with u4 | ⟨u4, u5⟩
            · exact .inl u4
            · obtain ⟨qj, fj, obj_, _⟩ := R1.ob u1 u4 u3
              have nn := kl pj i (Holds.of u1 u2 u3)
              have r := obj_.row.in (H' := H'') fun o eo _ => h3 pj o eo nn.1 nn.2
              rw [u5.inj r]
              exact .inr ⟨u4, obj_.row⟩
          refine ⟨R1.len, h2, R1.up.trans h1, fun a u e x1 x2 => ?_, fun a u e => ?_, fun i s e => ?_, fun i j a x1 x2 => R1.inj i j a (back _ _ x1) (back _ _ x2), R1.prs, fun w hw => ?_⟩
          · refine h3 a u (R1.keep a u e x1 x2) (fun z => ?_) (fun z => ?_)
            · rw [z, g1] at e
              cases e
            · rw [z, g2] at e
              cases e
          · rcases h4 a u e with ⟨w, hw⟩ | hw
            · exact R1.fro a w hw
            · exact .inr (R1.fresh hw).2.1
          · refine (R1.slot i s e).mono h1 (fun a u e' x1 x2 => ?_) (fun a x1 x2 n => ?_)
            · have nn := kl a i ⟨s, e, x1, x2⟩
              exact h3 a u e' nn.1 nn.2
            · obtain ⟨⟨u, eu⟩, _⟩ := R1.held ⟨s, e, x1, x2⟩
              exact nf a u eu n
          · obtain ⟨j, fj, pj, z1, z2, z3⟩ := R1.qrs w hw
            have nn := kl pj j (Holds.of z1 rfl z2)
            exact ⟨j, fj, pj, z1, z2, z3.in fun o eo _ => h3 pj o eo nn.1 nn.2⟩
        refine q v B H'' R2 (s1.trans h1) ?_
        cases r2 with
        | dat d =>
          show Rel G.K B v d
          rw [eK]
          exact h6
        | new es =>
          obtain ⟨z, us, y1, y2, y3, y4, y5⟩ := h6
          have f := R1.fresh y5
          refine ⟨z, us, y1, y2, by rw [eK]; exact y3, y4, f.2.1, fun i hi => ?_⟩
          obtain ⟨⟨u, eu⟩, _⟩ := R2.held hi
          obtain ⟨s, u1, u2, pj, u3, u4⟩ := hi
          refine f.2.2 i ⟨s, u1, u2, pj, u3, ?_⟩
          rcases u4 with u4 | ⟨u4, u5⟩
          · exact .inl u4
          · obtain ⟨qj, fj, obj_, _⟩ := R1.ob u1 u4 u3
            have nn := kl pj i (Holds.of u1 u2 u3)
            have r := obj_.row.in (H' := H'') fun o eo _ => h3 pj o eo nn.1 nn.2
            rw [u5.inj r]
            exact .inr ⟨u4, obj_.row⟩
end
/-- return x -/
theorem xs_retG {e : Expr} (hv : PE X e (tVar i)) : XS X (.Return (some e) pos) (sRetG i) := (ps_ret hv).weak fun D σ H ⟨G, H0, δ, o, δ', eK, R, e, q⟩ => by
  unfold sRetG at e
  cases es : δ[i]? with
  | none =>
    rw [es] at e
    cases e
  | some s =>
    rw [es] at e
    have sj := R.slot i s es
    cases s with
    | obj fs =>
      cases e
      obtain ⟨p, q', e1, _⟩ := sj
      exact ⟨_, e1, q σ H0 H R (Sub.refl _) _ e1⟩
    | _ => cases e
end
end IP
end
section
set_option Elab.async false
set_option linter.all false
set_option maxRecDepth 100000
set_option maxHeartbeats 2000000
namespace IP
open PySem L2
section
variable {K : PySem.W.Frag}
theorem start_at {N : List Str} {vs : List V} {i : Nat} {v : V} (e : vs[i]? = some v) : (L2.start N vs)[i]? = some (some v) := by
  unfold L2.start
  have hl : i < vs.length := (List.getElem?_eq_some_iff.mp e).1
  rw [List.getElem?_append_left (by rw [List.length_map]; exact hl), List.getElem?_map, e]
  rfl
theorem dat_at {ds : List D} {m : Nat} {i : Nat} {s : Slot} (e : (ds.map Slot.dat ++ List.replicate m .un)[i]? = some s) : s = .un ∨ ∃ d, s = .dat d ∧ ds[i]? = some d := by
  by_cases hi : i < ds.length
  · rw [List.getElem?_append_left (by rw [List.length_map]; exact hi), List.getElem?_map] at e
    simp only [Option.map_eq_some_iff] at e
    obtain ⟨d, h1, h2⟩ := e
    exact .inr ⟨d, h2.symm, h1⟩
  · rw [List.getElem?_append_right (by rw [List.length_map]; omega)] at e
    exact .inl (List.eq_of_mem_replicate (List.mem_of_getElem? e))
theorem fnG_read {F : Fn} {N : List Str} {vs : List V} {H : Hp} {Q : VK} {E : XK} (hN : N.length = F.names) (hle : F.nps ≤ F.names) (h : spG K F.runG vs H Q E) : kS K F.body { nx := fun _ H' => Q .non H', rt := Q } (L2.start N vs) H := by
  obtain ⟨H0, ds, r, p, q, fs, gs, ws, s0, rfl, ra, ob, e, k⟩ := h
  simp only [Fn.runG, Fn.start, Option.bind_eq_some_iff] at e
  obtain ⟨δ0, e0, ⟨o, δ1⟩, e1, e2⟩ := e
  split at e0
  · rename_i hlen
    cases e0
    let G : Gx := ⟨K, H, H0, [(0, p)], [q]⟩
    have hvl : ws.length = ds.length := ra.length
    have R : Rl G H0 H (Slot.pob fs :: (ds.map Slot.dat ++ List.replicate (F.names - F.nps) .un)) (L2.start N (.ref p :: ws)) := by
      have zero : ∀ {i : Nat} {a : Addr}, Holds H (Slot.pob fs :: (ds.map Slot.dat ++ List.replicate (F.names - F.nps) .un)) (L2.start N (.ref p :: ws)) i a → i = 0 := fun {i a} ⟨s, h1, h2, _⟩ => by
        cases i with
        | zero => rfl
        | succ i =>
          rw [List.getElem?_cons_succ] at h1
          rcases dat_at h1 with rfl | ⟨d, rfl, _⟩ <;> cases h2
      refine ⟨?_, s0, Sub.refl _, fun a o e _ _ => e, fun a o e => .inl ⟨o, e⟩, fun i s es => ?_, fun i j p' hi hj => (zero hi).trans (zero hj).symm, fun z hz => ?_, fun w hw => ?_⟩
      · unfold L2.start
        simp only [List.length_append, List.length_cons, List.length_map, List.length_replicate]
        omega
      · cases i with
        | zero =>
          cases es
          exact ⟨p, q, start_at rfl, List.mem_singleton.mpr rfl, List.mem_singleton.mpr rfl, ob⟩
        | succ i =>
          rw [List.getElem?_cons_succ] at es
          rcases dat_at es with rfl | ⟨d, rfl, h1⟩
          · trivial
          · obtain ⟨v, h2, h3⟩ := ra.get h1
            exact ⟨v, start_at (by rw [List.getElem?_cons_succ]; exact h2), h3⟩
      · obtain rfl := List.mem_singleton.mp hz
        exact ⟨.pob fs, rfl, rfl, start_at rfl⟩
      · obtain rfl := List.mem_singleton.mp hw
        exact ⟨0, fs, p, rfl, start_at rfl, ob.row⟩
    refine ⟨G, H0, _, o, δ1, rfl, R, e1, fun τ A H1 R1 s1 => ?_⟩
    have fin : ∀ gs', δ1[0]? = some (.pob gs') → ∀ v, gs' = gs → RetOk K H A H1 r v → Q v H1 := fun gs' eg v hg kr => by
      subst hg
      obtain ⟨p', q', z1, z2, z3, z4⟩ := R1.slot 0 _ eg
      obtain ⟨s, y1, y2, y3⟩ := R1.prs (0, p) (List.mem_singleton.mpr rfl)
      rw [y3] at z1
      cases z1
      obtain rfl := List.mem_singleton.mp z3
      refine k v A H1 s1 R1.sub (fun a o e ha hq => R1.keep a o e (fun z hz => ?_) (fun hz => hq (List.mem_singleton.mp hz))) R1.fro z4 kr
      obtain rfl := List.mem_singleton.mp hz
      exact fun h => ha h.symm
    dsimp only at e2
    split at e2
    · rename_i gs' eg
      cases e2
      exact fin _ eg _ rfl .non
    · rename_i r' gs' eg
      cases e2
      intro v kr
      refine fin _ eg v rfl ?_
      cases r with
      | dat d => exact kr
      | new es =>
        obtain ⟨z, us, y1, y2, y3, y4, y5, _⟩ := kr
        exact ⟨z, us, y1, y2, y3, y4, y5⟩
    · cases e2
  · cases e0
theorem spG_len {F : Fn} {ps : List Str} (hl : ps.length = F.nps) {vs : List V} {H : Hp} {Q : VK} {E : XK} (h : spG K F.runG vs H Q E) : vs.length = ps.length := by
  obtain ⟨H0, ds, r, p, q, fs, gs, ws, s0, rfl, ra, ob, e, k⟩ := h
  simp only [Fn.runG, Fn.start, Option.bind_eq_some_iff] at e
  obtain ⟨δ0, e0, _⟩ := e
  split at e0
  · rename_i hlen
    rw [hl, List.length_cons, ra.length, hlen]
  · cases e0
theorem fnN_read {F : Fn} {N : List Str} {vs : List V} {H : Hp} {Q : VK} {E : XK} (hN : N.length = F.names) (hle : F.nps ≤ F.names) (h : spN K F.runN vs H Q E) : kS K F.body { nx := fun _ H' => Q .non H', rt := Q } (L2.start N vs) H := by
  obtain ⟨H0, ds, r, fs, s0, ra, e, k⟩ := h
  simp only [Fn.runN, Fn.start, Option.bind_eq_some_iff] at e
  obtain ⟨δ0, e0, ⟨o, δ1⟩, e1, e2⟩ := e
  split at e0
  · rename_i hlen
    cases e0
    let G : Gx := ⟨K, H, H0, [], []⟩
    have hvl : vs.length = ds.length := ra.length
    have R : Rl G H0 H (ds.map Slot.dat ++ List.replicate (F.names - F.nps) .un) (L2.start N vs) := by
      refine ⟨?_, s0, Sub.refl _, fun a o e _ _ => e, fun a o e => .inl ⟨o, e⟩, fun i s es => ?_, fun i j p' hi hj => ?_, (fun z hz => nomatch hz), (fun z hz => nomatch hz)⟩
      · unfold L2.start
        simp only [List.length_append, List.length_map, List.length_replicate]
        omega
      · rcases dat_at es with rfl | ⟨d, rfl, h1⟩
        · trivial
        · obtain ⟨v, h2, h3⟩ := ra.get h1
          exact ⟨v, start_at h2, h3⟩
      · obtain ⟨s, h1, h2, _⟩ := hi
        rcases dat_at h1 with rfl | ⟨d, rfl, _⟩ <;> cases h2
    refine ⟨G, H0, _, o, δ1, rfl, R, e1, fun τ A H1 R1 s1 => ?_⟩
    cases o with
    | ro i =>
      intro v hv
      dsimp only at e2
      cases es : δ1[i]? with
      | none =>
        rw [es] at e2
        cases e2
      | some s =>
        rw [es] at e2
        have sj := R1.slot i s es
        cases s with
        | obj gs =>
          cases e2
          obtain ⟨p, q, z1, z2, z3, z4⟩ := sj
          rw [hv] at z1
          cases z1
          exact k p q A H1 s1 R1.sub (fun a o e => R1.keep a o e (fun z hz => nomatch hz) (fun z => nomatch z)) R1.fro z2 z3 z4
        | _ => cases e2
    | _ => cases e2
  · cases e0
theorem spN_len {F : Fn} {ps : List Str} (hl : ps.length = F.nps) {vs : List V} {H : Hp} {Q : VK} {E : XK} (h : spN K F.runN vs H Q E) : vs.length = ps.length := by
  obtain ⟨H0, ds, r, fs, s0, ra, e, k⟩ := h
  simp only [Fn.runN, Fn.start, Option.bind_eq_some_iff] at e
  obtain ⟨δ0, e0, _⟩ := e
  split at e0
  · rename_i hlen
    rw [hl, ra.length, hlen]
  · cases e0
end
section
variable {P : Program} {w : World} {K : PySem.W.Frag} {mg : Str → Option Value} {base : Heap}
theorem gX_ne {a b : Nat} (ha : a < 6) (hb : b < 6) (h : a ≠ b) : ¬ gX a = gX b := by
  have : ∀ a b : Fin 6, a ≠ b → ¬ gX a = gX b := by decide +kernel
  exact this ⟨a, ha⟩ ⟨b, hb⟩ (fun z => h (by simpa using z))
end
end IP
end
section
set_option Elab.async false
set_option linter.all false
set_option maxRecDepth 100000
set_option maxHeartbeats 2000000
namespace IP
open PySem L2
def pF1 (v : V) : List (Str × V) := [("prime", v)]
def pF2 (v : V) (q : Addr) : List (Str × V) := [("prime", v), ("row", .ref q)]
def pF3 (v : V) (q : Addr) : List (Str × V) := [("prime", v), ("row", .ref q), ("length", .int 0)]
def pF4 (v : V) (q l : Addr) : List (Str × V) := [("prime", v), ("row", .ref q), ("length", .int 0), ("low", .ref l)]
def pF5 (v : V) (q l o : Addr) : List (Str × V) := [("prime", v), ("row", .ref q), ("length", .int 0), ("low", .ref l), ("older", .ref o)]
theorem put1 (v : V) : putF "prime" v [] = pF1 v := rfl
theorem put2 (v : V) (q : Addr) : putF "row" (.ref q) (pF1 v) = pF2 v q := by
  have h : ¬ (("prime" : Str) = "row") := by decide +kernel
  simp [pF1, pF2, putF, h]
theorem put3 (v : V) (q : Addr) : putF "length" (.int 0) (pF2 v q) = pF3 v q := by
  have h : ¬ (("prime" : Str) = "length") := by decide +kernel
  have h1 : ¬ (("row" : Str) = "length") := by decide +kernel
  simp [pF2, pF3, putF, h, h1]
theorem put4 (v : V) (q l : Addr) : putF "low" (.ref l) (pF3 v q) = pF4 v q l := by
  have h : ¬ (("prime" : Str) = "low") := by decide +kernel
  have h1 : ¬ (("row" : Str) = "low") := by decide +kernel
  have h2 : ¬ (("length" : Str) = "low") := by decide +kernel
  simp [pF3, pF4, putF, h, h1, h2]
theorem put5 (v : V) (q l o : Addr) : putF "older" (.ref o) (pF4 v q l) = pF5 v q l o := by
  have h : ¬ (("prime" : Str) = "older") := by decide +kernel
  have h1 : ¬ (("row" : Str) = "older") := by decide +kernel
  have h2 : ¬ (("length" : Str) = "older") := by decide +kernel
  have h3 : ¬ (("low" : Str) = "older") := by decide +kernel
  simp [pF4, pF5, putF, h, h1, h2, h3]
theorem put6 (v : V) (q l o : Addr) : putF "shift" (.int 1) (pF5 v q l o) = gFs v q (.int 0) (.ref l) (.ref o) (.int 1) := by
  have h : ¬ (("prime" : Str) = "shift") := by decide +kernel
  have h1 : ¬ (("row" : Str) = "shift") := by decide +kernel
  have h2 : ¬ (("length" : Str) = "shift") := by decide +kernel
  have h3 : ¬ (("low" : Str) = "shift") := by decide +kernel
  have h4 : ¬ (("older" : Str) = "shift") := by decide +kernel
  simp [pF5, gFs, putF, h, h1, h2, h3, h4]
/-- what __init__'s six stores read -/
def tInit (K : PySem.W.Frag) : TS := fun D σ H =>
  L2.sFld K (tVar 0) (tVar 1) "prime" { D with nx := (fun σ H =>
    L2.sFld K (tVar 0) (tLst tNil) "row" { D with nx := (fun σ H =>
      L2.sFld K (tVar 0) (tC (.int 0)) "length" { D with nx := (fun σ H =>
        L2.sFld K (tVar 0) (tLst (tCons (tC (.int 1)) tNil)) "low" { D with nx := (fun σ H =>
          L2.sFld K (tVar 0) (tLst (tCons (tC (.int 1)) tNil)) "older" { D with nx := (fun σ H =>
            L2.sFld K (tVar 0) (tC (.int 1)) "shift" D σ H) } σ H) } σ H) } σ H) } σ H) } σ H
theorem init_read {K : PySem.W.Frag} {D : Ends} {σ : L2.St} {H : Hp} {p dx : Addr} {v : V} (cl : Cls K (GC K)) (no : ∀ k, NoAttr K (GC K) (gX k)) (h0 : σ[0]? = some (some (V.ref p))) (h1 : σ[1]? = some (some v)) (hp : H p = some (.ins (GC K) dx []))
    (k : ∀ q l o H', H q = none → H l = none → H o = none → q ≠ l → q ≠ o → l ≠ o → H' p = some (.ins (GC K) dx (gFs v q (.int 0) (.ref l) (.ref o) (.int 1))) → H' q = some (.lst []) → H' l = some (.lst [.int 1]) → H' o = some (.lst [.int 1]) →
    (∀ a u, H a = some u → a ≠ p → H' a = some u) → D.nx σ H') : tInit K D σ H := by
  refine ⟨v, h1, .ref p, h0, p, GC K, dx, [], rfl, hp, cl, no 0, by decide, ?_⟩
  rw [put1]
  refine ⟨Nat.zero_le _, fun q hq => ?_⟩
  have qp : q ≠ p := fun z => by
    rw [z, upd_same] at hq
    cases hq
  refine ⟨.ref p, h0, p, GC K, dx, pF1 v, rfl, by rw [upd_ne qp.symm, upd_same], cl, no 1, by simp [pF1], ?_⟩
  rw [put2]
  refine ⟨.ref p, h0, p, GC K, dx, pF2 v q, rfl, upd_same, cl, no 2, by simp [pF2], ?_⟩
  rw [put3]
  refine ⟨by rw [sizeLine_eq]; decide, fun l hl => ?_⟩
  have lp : l ≠ p := fun z => by
    rw [z, upd_same] at hl
    cases hl
  refine ⟨.ref p, h0, p, GC K, dx, pF3 v q, rfl, by rw [upd_ne lp.symm, upd_same], cl, no 3, by simp [pF3], ?_⟩
  rw [put4]
  refine ⟨by rw [sizeLine_eq]; decide, fun o ho => ?_⟩
  have op : o ≠ p := fun z => by
    rw [z, upd_same] at ho
    cases ho
  refine ⟨.ref p, h0, p, GC K, dx, pF4 v q l, rfl, by rw [upd_ne op.symm, upd_same], cl, no 4, by simp [pF4], ?_⟩
  rw [put5]
  refine ⟨.ref p, h0, p, GC K, dx, pF5 v q l o, rfl, upd_same, cl, no 5, by simp [pF5], ?_⟩
  rw [put6]
  have hq' : H q = none := by
    rw [upd_ne qp] at hq
    exact hq
  rw [upd_ne lp, upd_ne lp] at hl
  have lq : l ≠ q := fun z => by
    rw [z, upd_same] at hl
    cases hl
  rw [upd_ne lq, upd_ne lp] at hl
  rw [upd_ne op] at ho
  have ol : o ≠ l := fun z => by
    rw [z, upd_same] at ho
    cases ho
  rw [upd_ne ol, upd_ne op, upd_ne op] at ho
  have oq : o ≠ q := fun z => by
    rw [z, upd_same] at ho
    cases ho
  rw [upd_ne oq, upd_ne op] at ho
  refine k q l o _ hq' hl ho (Ne.symm lq) (Ne.symm oq) (Ne.symm ol) upd_same ?_ ?_ ?_ fun a u ea hap => ?_
  · rw [upd_ne qp, upd_ne qp, upd_ne (Ne.symm oq), upd_ne qp, upd_ne (Ne.symm lq), upd_ne qp, upd_ne qp, upd_same]
  · rw [upd_ne lp, upd_ne lp, upd_ne (Ne.symm ol), upd_ne lp, upd_same]
  · rw [upd_ne op, upd_ne op, upd_same]
  · rw [upd_ne hap, upd_ne hap, upd_ne (ne_of_none ea ho), upd_ne hap, upd_ne (ne_of_none ea hl), upd_ne hap, upd_ne hap, upd_ne (ne_of_none ea hq'), upd_ne hap]
    exact ea
end IP
end
section
set_option linter.all false
/-! IS: further operations on data. -/
namespace IP
open PySem
@[simp] def biAny2 : List D → Option Res
  | [.list xs] => match boolsOf xs with
    | some bs => some (.dat (.bool (bs.any id)))
    | none => (intsOf xs).map fun is => .dat (.bool (is.any fun i => i != 0))
  | _ => none
end IP
namespace IP
open PySem
/-- arguments, with defaults behind -/
def aApp (A : Ea) (ds : List D) : Ea := fun δ => (A δ).map fun p => (p.1 ++ ds.map Opd.val, p.2)
end IP
namespace IP
open PySem
/-- lists that stand under a comprehension's own names are frozen ahead of it -/
def fzAll : List Nat → Env → Env
  | [], δ => δ
  | i :: is, δ => fzAll is (freeze δ i)
def vFz (is : List Nat) (f : Ev) : Ev := fun δ => f (fzAll is δ)
def sFz (is : List Nat) (f : Es) : Es := fun δ => f (fzAll is δ)
end IP
end
section
set_option Elab.async false
set_option linter.all false
set_option maxRecDepth 100000
set_option maxHeartbeats 2000000
namespace IP
open PySem L2 PySem.Spec PyProof.Rows
/-! any of a list of ints -/
theorem truth_vals {prog : Program} {w : World} {A : Around} {ns : List Int} {its : List Value} (e : Vals (ns.map V.int) its) :
    TruthOf prog w A (fun i v => its.toArray[i]? = some v) (fun i => ns.getD i 0 != 0) := fun i v s Q E hv hq => by
  have hv' : its[i]? = some v := by simpa using hv
  have key : ∀ (ns : List Int) (its : List Value) (i : Nat), Vals (ns.map V.int) its → its[i]? = some v → ∃ t, v = .int (ns.getD i 0) t := by
    intro ns
    induction ns with
    | nil =>
      intro its i e h
      rw [List.map_nil] at e
      cases e
      simp at h
    | cons n ns ih =>
      intro its i e h
      rw [List.map_cons] at e
      cases e with
      | cons r t =>
        cases i with
        | zero =>
          obtain ⟨k, rfl⟩ := r
          simp at h
          exact ⟨k, h.symm⟩
        | succ i => exact ih _ i t (by simpa using h)
  obtain ⟨t, rfl⟩ := key ns its i e hv'
  exact truthy_int hq
theorem any_rangeI : ∀ ns : List Int, (List.range ns.length).any (fun i => ns.getD i 0 != 0) = ns.any fun i => i != 0
  | [] => rfl
  | b :: bs => by
    rw [List.length_cons, List.range_succ_eq_map, List.any_cons, List.any_map, List.any_cons, ← any_rangeI bs]
    all_goals rfl
section
variable {X : Cx}
def rAnyI (K : PySem.W.Frag) : List V → Hp → VK → Prop := fun vs H Q => ∃ (a : Addr) (ns : List Int), vs = [V.ref a] ∧ SqL K H a (ns.map V.int) ∧ Q (.bl (ns.any fun i => i != 0)) H
theorem cr_anyI (hc : X.calm = true) : CallR X (.builtin "any") (rAnyI X.K) := by
  intro pins s σ H vs us Q I r h
  obtain ⟨a, ns, rfl, hs, q⟩ := h
  obtain ⟨its, rv, hl, _⟩ := I.list hs
  rw [Vals.ref1 r]
  refine call_any_walk (iter_any hl.isList fun s₂ e2 st hne => ?_)
  subst e2
  refine ⟨_, _, _, _, _, _, _, rfl, Walks.list (A := X.A.in1) (I.ok.hd hc) _ a hne its.toArray, st, truth_vals rv, fun h' tk hk => ?_⟩
  refine ⟨.bl _, H, I.kept fun b o eo => hk b o (fun hmem => ?_) (Heap.get?_push_of_some _ eo), ?_, q⟩
  · rcases List.mem_cons.mp hmem with e1 | hmem
    · exact absurd (e1 ▸ Heap.lt_size eo) (Nat.lt_irrefl _)
    · cases hmem
  · show Value.bool _ = Value.bool _
    rw [← any_rangeI, List.size_toArray, ← rv.length, List.length_map]
def rAny2 (K : PySem.W.Frag) : List V → Hp → VK → Prop := fun vs H Q => rAny K vs H Q ∨ rAnyI K vs H Q
theorem cr_any2 (hc : X.calm = true) : CallR X (.builtin "any") (rAny2 X.K) := by
  intro pins s σ H vs us Q I r h
  rcases h with h | h
  · exact cr_any hc pins s σ H vs us Q I r h
  · exact cr_anyI hc pins s σ H vs us Q I r h
end
section
variable {K : PySem.W.Frag}
theorem s_any2 : BiS K (rAny2 K) biAny2 := by
  intro G H0 H δ σ vs ds res eK R r e Q q
  subst eK
  unfold biAny2 at e
  split at e
  · obtain ⟨v, rfl, h⟩ := one r
    obtain ⟨p, xs, rfl, h1, h2⟩ := relT_list R.sub h
    split at e
    · rename_i bs e1
      cases e
      obtain rfl := h2.bools e1
      exact .inl ⟨p, bs, rfl, SqL.of h1, q _ _ _ R (Sub.refl _) (.bl _)⟩
    · simp only [Option.map_eq_some_iff] at e
      obtain ⟨is, e1, rfl⟩ := e
      obtain rfl := h2.ints e1
      exact .inr ⟨p, is, rfl, SqL.of h1, q _ _ _ R (Sub.refl _) (.bl _)⟩
  · cases e
end
end IP
end
section
set_option Elab.async false
set_option linter.all false
set_option maxRecDepth 100000
set_option maxHeartbeats 2000000
namespace IP
open PySem L2 PySem.Spec PyProof.Rows
theorem OpdAll.app {G : Gx} {H0 : Hp} {σ : L2.St} {os os' : List Opd} {vs vs' : List V} (h : OpdAll G H0 σ os vs) (h' : OpdAll G H0 σ os' vs') : OpdAll G H0 σ (os ++ os') (vs ++ vs') := by
  induction h with
  | nil => exact h'
  | cons q _ ih => exact .cons q ih
theorem opd_ints {G : Gx} {H0 : Hp} {σ : L2.St} : ∀ is : List Int, OpdAll G H0 σ ((is.map PyData.int).map Opd.val) (is.map V.int)
  | [] => .nil
  | i :: is => .cons (.int i) (opd_ints is)
section
variable {X : Cx} {c : Fnc} {A : Ea} {CX : CXT} {k : Nat} {fa : Addr} {fd : FuncData} {ps : List Str} {E : XK} {x : Str} {p pos : Pos} {e : Expr} {es : List Expr}
/-- f(e, ..), the last arguments left to their defaults -/
theorem x_callDf {is : List Int} (F : FnOk X.prog X.w X.K X.mg X.base CX k fa fd ps (spI X.K c)) (hr : Room k X.A) (hg : Gl X x) (hm : X.mg x = some (.ref fa)) (hk : PySem.W.keepIn X.K (.ref fa) = true) (hb : ∃ ds, Vals (is.map V.int) ds ∧ Binds X.K fd ps ds) (hx : Passes CX X E)
    (ha : XA X (e :: es) A) (hdb : (x == ("__debug__" : Str)) = false := by decide) (he : starEach (e :: es) X.env = (false, eval e X.env) :: starEach es X.env := by rfl) (hpl : (backTo pos (starEach es X.env)).any (·.1) = false := by rfl) :
    XV X (.Call (.Name x p) (e :: es) [] pos) (vCall c (aApp A (is.map .int))) := by
  obtain ⟨ds, hv, hb⟩ := hb
  refine (pe_call F hr hg hm hk hb hv hx ha hdb he hpl).weak fun σ H Q h => ?_
  have h' := call_read (E := E) h
  obtain ⟨G, H0, δ, os, δ', eK, R, e1, q⟩ := h'
  simp only [aApp, Option.map_eq_some_iff] at e1
  obtain ⟨⟨os1, δ1⟩, e2, e3⟩ := e1
  cases e3
  refine ⟨G, H0, δ, os1, _, eK, R, e2, fun vs A' H' R' s k => ?_⟩
  have this : spI X.K c ((vs ++ is.map V.int) ++ []) H' Q E := q (vs ++ is.map V.int) A' H' R' s (k.app (opd_ints is))
  rw [List.append_nil] at this
  exact this
end
end IP
namespace IP
open PySem L2
theorem Rl.freezes {G : Gx} {H : Hp} {σ : L2.St} : ∀ (is : List Nat) {H0 : Hp} {δ : Env}, Rl G H0 H δ σ → ∃ H0', Rl G H0' H (fzAll is δ) σ ∧ Sub H0 H0'
  | [], H0, _, R => ⟨H0, R, Sub.refl _⟩
  | i :: is, _, _, R => by
    obtain ⟨A, R1, s1⟩ := R.freeze i
    obtain ⟨B, R2, s2⟩ := R1.freezes is
    exact ⟨B, R2, s1.trans s2⟩
section
variable {X : Cx} {e : Expr} {st : Stmt} {f : Ev} {g : Es} {is : List Nat}
theorem xv_fz (h : XV X e f) : XV X e (vFz is f) := h.weak fun σ H Q ⟨G, H0, δ, res, δ', eK, R, e, q⟩ => by
  obtain ⟨A, R1, s1⟩ := R.freezes is
  exact ⟨G, A, _, res, δ', eK, R1, e, fun v A' B' R2 s2 k2 => q v A' B' R2 (s1.trans s2) k2⟩
theorem xs_fz (h : XS X st g) : XS X st (sFz is g) := h.weak fun D σ H ⟨G, H0, δ, o, δ', eK, R, e, q⟩ => by
  obtain ⟨A, R1, s1⟩ := R.freezes is
  exact ⟨G, A, _, o, δ', eK, R1, e, fun σ' A' B' R2 s2 => q σ' A' B' R2 (s1.trans s2)⟩
end
end IP
end
section
set_option linter.all false
/-! IT: further walks and displays. -/
namespace IP
open PySem
/-- range(a, b, 2) -/
def upD (lo : Int) (n : Nat) : List D := (List.range n).map fun k => .int (lo + 2 * (k : Nat))
def iStep2 (f g : Eo) : Ei := fun δ => (f δ).bind fun p => (g p.2).bind fun q => match p.1, q.1 with
  | .val (.int i), .val (.int j) => if small60 i = true ∧ small60 j = true then some ((upD i ((j - i + 1) / 2).toNat, none), q.2) else none
  | _, _ => none
theorem iStep2_at {f g : Eo} {δ δ1 δ2 : Env} {i j : Int} (h1 : f δ = some (.val (.int i), δ1)) (h2 : g δ1 = some (.val (.int j), δ2)) (hi : -1000000000 ≤ i ∧ i ≤ 1000000000) (hj : -1000000000 ≤ j ∧ j ≤ 1000000000) : iStep2 f g δ = some ((upD i ((j - i + 1) / 2).toNat, none), δ2) := by
  rw [iStep2, h1]
  simp only [Option.bind_some]
  rw [h2]
  simp only [Option.bind_some]
  rw [if_pos ⟨small60_of hi, small60_of hj⟩]
/-- a written dict of ints, looked up at once -/
def dix : List (Int × D) → Int → Option D
  | [], _ => none
  | (k, d) :: r, x => if k = x then some d else dix r x
def vDix (kds : List (Int × D)) (f : Eo) : Ev := fun δ => (f δ).bind fun q => match q.1 with
  | .val (.int x) => (dix kds x).map fun d => (.dat d, q.2)
  | _ => none
theorem vDix_at {kds : List (Int × D)} {f : Eo} {δ δ1 : Env} {x : Int} {d : D} (h : f δ = some (.val (.int x), δ1)) (h2 : dix kds x = some d) : vDix kds f δ = some (.dat d, δ1) := by
  unfold vDix
  rw [h]
  simp only [Option.bind_some, h2, Option.map_some]
/-- sorted, of one tuple of one int -/
def biSrt1 : List D → Option Res
  | [.list [.tuple [.int i]]] => if 0 ≤ i ∧ i < 1000 then some (.new [.tuple [.int i]]) else none
  | _ => none
end IP
end
section
set_option Elab.async false
set_option linter.all false
set_option maxRecDepth 100000
set_option maxHeartbeats 400000
namespace IP
open PySem L2 RZ
theorem rangeSize_two (a b : Int) : Builtin.Range.rangeSize a b 2 = (((b - a + 1) / 2).toNat : Int) := by
  unfold Builtin.Range.rangeSize
  simp only [show ((2 : Int) > 0) by decide, if_true]
  split <;> omega
theorem small_two {a b : Int} (ha : -(2 ^ 60) ≤ a) (ha' : a < 2 ^ 60) (hb : -(2 ^ 60) ≤ b) (hb' : b < 2 ^ 60) : Builtin.Range.small a b 2 = true := by
  unfold Builtin.Range.small
  rw [rangeSize_two]
  simp only [Builtin.Range.rangeFitsLong, Bool.and_eq_true, Bool.or_eq_true, decide_eq_true_eq, beq_iff_eq, show ((2 : Int) > 0) by decide, if_true]
  omega
theorem rg_two {i j : Int} (hi : small60 i = true) (hj : small60 j = true) : RgC i j 2 ((j - i + 1) / 2).toNat := by
  have a := of_decide_eq_true hi
  have b := of_decide_eq_true hj
  exact ⟨by decide, by decide, small_two a.1 a.2 b.1 b.2, rangeSize_two i j⟩
section
variable {X : Cx} {K : PySem.W.Frag} {tg e e2 : Expr} {f g : Eo} {pos p : Pos}
theorem upD_get {lo : Int} {n i : Nat} (h : i < n) : (upD lo n)[i]? = some (.int (lo + 2 * (i : Nat))) := by
  unfold upD
  simp [h]
theorem upD_length (lo : Int) (n : Nat) : (upD lo n).length = n := by
  unfold upD
  simp
theorem iw_up {G : Gx} {H0 : Hp} {σ : L2.St} {lo : Int} {n : Nat} : IW G H0 σ (Itc lo 2 n) (upD lo n) none where
  goes := fun i A H δ τ R s hk st h => by
    rw [upD_length] at h
    exact h
  stops := fun A H δ τ R s hk st => by
    rw [upD_length]
    exact Nat.le_refl n
  yields := fun i A H δ τ x H' R s hk st h y => by
    obtain ⟨rfl, rfl⟩ := y
    rw [upD_length] at h
    refine ⟨A, _, R, Sub.refl _, Sub.refl _, Fro.refl, upD_get h, ?_⟩
    rw [show lo + (i : Int) * 2 = lo + 2 * (i : Int) by omega]
    exact .int _
/-- range(a, b, 2) -/
theorem xi_step2 {a b : Expr} {u : Nat} {p1 : Pos} (hg : Gl X "range") (hm : X.mg "range" = none) (ha : XO X a f) (hb : XO X b g)
    (hs : starEach [a, b, .Constant (.int 2) u p1] X.env = (false, eval a X.env) :: starEach [b, .Constant (.int 2) u p1] X.env := by rfl)
    (hs2 : starEach [b, .Constant (.int 2) u p1] X.env = (false, eval b X.env) :: starEach [.Constant (.int 2) u p1] X.env := by rfl)
    (hs3 : starEach [.Constant (.int 2) u p1] X.env = (false, eval (.Constant (.int 2) u p1) X.env) :: starEach [] X.env := by rfl)
    (h4 : (backTo pos (starEach [b, .Constant (.int 2) u p1] X.env)).any (·.1) = false := by rfl) :
    XI X tg (.Call (.Name "range" p) [a, b, .Constant (.int 2) u p1] [] pos) (iStep2 f g) :=
  (pi_range3 hg hm (pa_cons ha (pa_cons hb (pa_cons pe_int pa_nil hs3) hs2) hs) hs h4).weak fun σ H Rr ⟨G, H0, δ, xs, ow, δ', eK, R, e0, q⟩ => by
    simp only [iStep2, Option.bind_eq_some_iff] at e0
    obtain ⟨⟨o, δ1⟩, e1, ⟨o2, δ2⟩, e2, e3⟩ := e0
    refine ⟨G, H0, δ, o, δ1, eK, R, e1, fun v H0' H' R1 s1 k1 => ?_⟩
    refine ⟨G, H0', δ1, o2, δ2, eK, R1, e2, fun w A B R2 s2 k2 => ?_⟩
    cases o with
    | «at» i => cases e3
    | val d =>
      cases d with
      | int j =>
        cases o2 with
        | «at» i => cases e3
        | val d =>
          cases d with
          | int l =>
            dsimp only at e3
            split at e3
            · rename_i hj
              cases e3
              cases k1
              cases k2
              exact ⟨j, l, 2, ((l - j + 1) / 2).toNat, rfl, rg_two hj.1 hj.2, q _ _ _ R2 (s1.trans s2) iw_up⟩
            · cases e3
          | _ => cases e3
      | _ => cases e3
end
end IP
end
section
set_option Elab.async false
set_option linter.all false
set_option maxRecDepth 100000
set_option maxHeartbeats 400000
namespace IP
open PySem L2 RZ
/-! written dicts of ints, looked up at once -/
theorem upd_swap {H : Hp} {p q : Addr} {o u : HO} (h : p ≠ q) : upd (upd H p o) q u = upd (upd H q u) p o := by
  funext a
  by_cases ha : a = q
  · subst ha
    rw [upd_same, upd_ne h.symm, upd_same]
  · rw [upd_ne ha]
    by_cases hb : a = p
    · subst hb
      rw [upd_same, upd_same]
    · rw [upd_ne hb, upd_ne hb, upd_ne ha]
theorem upd_twice {H : Hp} {p : Addr} {o u : HO} : upd (upd H p o) p u = upd H p u := by
  funext a
  by_cases ha : a = p
  · subst ha
    rw [upd_same, upd_same]
  · rw [upd_ne ha, upd_ne ha, upd_ne ha]
def TEok (X : Cx) (te : TE) (d : D) : Prop := ∀ {G : Gx} {A H : Hp} {δ : Env} {σ : L2.St} {p : Addr} {o : HO} (Q : VK), Rl G A H δ σ → H p = none →
  (∀ v A' H', Rl G A' H' δ σ → Sub A A' → H' p = none → Rel G.K A' v d → Q v (upd H' p o)) → te σ (upd H p o) Q
def DV (X : Cx) (e : Expr) (d : D) : Prop := ∃ te, PE X e te ∧ TEok X te d
def PAi (X : Cx) (es : List Expr) (is : List Int) : Prop := ∃ ta, PA X es ta ∧ ∀ σ H (Q : List V → Hp → Prop), Q (is.map V.int) H → ta σ H Q
section
variable {X : Cx} {pos : Pos}
theorem dv_int {i : Int} {u : Nat} : DV X (.Constant (.int i) u pos) (.int i) := ⟨_, pe_int, fun Q R hp h => h _ _ _ R (Sub.refl _) hp (.int i)⟩
theorem pai_nil : PAi X [] [] := ⟨_, pa_nil, fun σ H Q h => h⟩
theorem pai_cons {i : Int} {u : Nat} {es : List Expr} {is : List Int} (h : PAi X es is) (hs : starEach (.Constant (.int i) u pos :: es) X.env = (false, eval (.Constant (.int i) u pos) X.env) :: starEach es X.env := by rfl) : PAi X (.Constant (.int i) u pos :: es) (i :: is) := by
  obtain ⟨ta, h1, h2⟩ := h
  exact ⟨_, pa_cons pe_int h1 hs, fun σ H Q q => h2 σ H _ q⟩
theorem relall_ints {K : PySem.W.Frag} {H : Hp} : ∀ is : List Int, RelAll K H (is.map V.int) (is.map PyData.int)
  | [] => .nil
  | i :: is => .cons (.int i) (relall_ints is)
theorem dv_lst {es : List Expr} {is : List Int} (h : PAi X es is) (hl : is.length ≤ 16000000 := by decide) : DV X (.List es pos) (.list (is.map .int)) := by
  obtain ⟨ta, h1, h2⟩ := h
  refine ⟨_, pe_lst h1, ?_⟩
  intro G A H δ σ p o Q R hp q
  refine h2 σ _ _ ⟨by rw [List.length_map, sizeLine_eq]; omega, fun q' hq' => ?_⟩
  have hne : p ≠ q' := fun e => by
    subst e
    rw [upd_same] at hq'
    cases hq'
  rw [upd_ne hne.symm] at hq'
  rw [upd_swap hne]
  obtain ⟨R1, s1⟩ := R.laid0 (o := .lst (is.map V.int)) hq'
  refine q _ _ _ R1 s1 (by rw [upd_ne hne]; exact hp) (.lst upd_same (relall_ints is))
def PD (X : Cx) (pos : Pos) (keys : List (Option Expr)) (values : List Expr) (kds : List (Int × D)) : Prop := ∃ trs, PPs X pos keys values trs ∧
  ∀ {G : Gx} {A H : Hp} {δ : Env} {σ : L2.St} {p : Addr} {o : HO} (Q : List (V × V) → Hp → Prop), Rl G A H δ σ → H p = none →
    (∀ vs A' H', Rl G A' H' δ σ → Sub A A' → H' p = none → RelAll G.K A' vs (kds.map Prod.snd) → Q ((kds.map fun kd => V.int kd.1).zip vs) (upd H' p o)) → tPairs trs σ (upd H p o) Q
theorem pd_nil : PD X pos [] [] [] := ⟨_, pps_nil, fun Q R hp h => h _ _ _ R (Sub.refl _) hp .nil⟩
theorem pd_cons {k : Int} {u : Nat} {kp : Pos} {v : Expr} {d : D} {ks : List (Option Expr)} {vs : List Expr} {kds : List (Int × D)} (hv : DV X v d) (hr : PD X pos ks vs kds) : PD X pos (some (.Constant (.int k) u kp) :: ks) (v :: vs) ((k, d) :: kds) := by
  obtain ⟨te, v1, v2⟩ := hv
  obtain ⟨trs, r1, r2⟩ := hr
  refine ⟨_, pps_cons pe_int v1 r1, ?_⟩
  intro G A H δ σ p o Q R hp q
  refine v2 _ R hp fun x A1 H1 R1 s1 hp1 k1 => ?_
  refine r2 _ R1 hp1 fun ws A2 H2 R2 s2 hp2 k2 => ?_
  exact q (x :: ws) A2 H2 R2 (s1.trans s2) hp2 (.cons (Rel.sub s2 k1) k2)
theorem zip_keys : ∀ (kds : List (Int × D)) (vs : List V), vs.length = kds.length → (kds.map fun kd => V.int kd.1).zip vs = ((kds.map fun kd => (Sum.inl kd.1 : Key)).zip vs).map fun kv => (kV kv.1, kv.2)
  | [], [], _ => rfl
  | [], _ :: _, h => by cases h
  | _ :: _, [], h => by cases h
  | kd :: kds, v :: vs, h => by
    simp only [List.map_cons, List.zip_cons_cons]
    rw [zip_keys kds vs (by simpa using h)]
    rfl
theorem relall_len {K : PySem.W.Frag} {H : Hp} : ∀ {vs : List V} {ds : List D}, RelAll K H vs ds → vs.length = ds.length
  | [], [], _ => rfl
  | _ :: _, _ :: _, .cons _ h => by rw [List.length_cons, List.length_cons, relall_len h]
theorem merge_nd : ∀ (kvs acc : List (Key × V)), ((acc ++ kvs).map Prod.fst).Nodup → mergeK acc kvs = acc ++ kvs
  | [], acc, _ => by rw [List.append_nil]; rfl
  | kv :: kvs, acc, h => by
    have hn : valV acc kv.1 = none := by
      unfold valV
      rw [List.find?_eq_none.mpr]
      · rfl
      · intro x hx e
        have e : x.1 = kv.1 := by simpa using e
        rw [List.map_append, List.map_cons, List.nodup_append] at h
        exact h.2.2 x.1 (List.mem_map.mpr ⟨x, hx, rfl⟩) kv.1 List.mem_cons_self e
    show mergeK (putK acc kv.1 kv.2) kvs = _
    rw [putK_new _ hn, merge_nd kvs _ (by rw [List.append_assoc]; exact h), List.append_assoc]
    rfl
theorem dix_val {K : PySem.W.Frag} {H : Hp} : ∀ {kds : List (Int × D)} {vs : List V} {x : Int} {d : D}, RelAll K H vs (kds.map Prod.snd) → dix kds x = some d → ∃ v, valV ((kds.map fun kd => (Sum.inl kd.1 : Key)).zip vs) (Sum.inl x) = some v ∧ Rel K H v d
  | [], _, x, d, _, h => by cases h
  | (k, e) :: kds, _, x, d, .cons (v := v) h1 h2, h => by
    unfold dix at h
    by_cases c : k = x
    · rw [if_pos c] at h
      cases h
      subst c
      exact ⟨v, valV_pos rfl, h1⟩
    · rw [if_neg c] at h
      obtain ⟨w, e1, e2⟩ := dix_val h2 h
      exact ⟨w, (valV_neg (fun z => c (by cases z; rfl))).trans e1, e2⟩
theorem x_dix {keys : List (Option Expr)} {values : List Expr} {kds : List (Int × D)} {i : Expr} {f : Eo} {p1 p2 : Pos} (hd : PD X p1 keys values kds) (hf : XO X i f) (hr : Room 0 X.A) (hnd : (kds.map Prod.fst).Nodup) (h15 : kds.length ≤ 15)
    (hall : keys.all (·.isSome) = true := by rfl) (hl : keys.length = values.length := by rfl) (h0 : keys ≠ [] := by exact fun z => by cases z) (hk : keys.length ≤ 15 := by decide) (hs : NoSl i := by exact fun _ _ => rfl) :
    XV X (.Subscript (.Dict keys values p1) i p2) (vDix kds f) := by
  obtain ⟨trs, d1, d2⟩ := hd
  refine (pe_dget (hu_of hr) (pe_disp d1 hall hl h0 hk) hf hs).weak fun σ H Q ⟨G, H0, δ, r, δ', eK, R, e, q⟩ => ?_
  unfold vDix at e
  simp only [Option.bind_eq_some_iff] at e
  obtain ⟨⟨o, δ1⟩, e1, e2⟩ := e
  intro p hp
  refine d2 _ R hp fun vs A H1 R1 s1 hp1 k1 => ?_
  have hlen : vs.length = kds.length := by rw [relall_len k1, List.length_map]
  refine ⟨upd_same, (kds.map fun kd => (Sum.inl kd.1 : Key)).zip vs, zip_keys kds vs hlen, by simp [hlen]; exact h15, ?_⟩
  rw [upd_twice]
  have nd : (((kds.map fun kd => (Sum.inl kd.1 : Key)).zip vs).map Prod.fst).Nodup := by
    rw [List.map_fst_zip (by simp [hlen])]
    rw [show (kds.map fun kd => (Sum.inl kd.1 : Key)) = (kds.map Prod.fst).map Sum.inl by rw [List.map_map]; rfl]
    exact hnd.map (f := Sum.inl) (fun a b hab e => hab (by cases e; rfl))
  rw [merge_nd _ [] (by rw [List.nil_append]; exact nd), List.nil_append]
  obtain ⟨R2, s2⟩ := R1.laid0 (o := .dK ((kds.map fun kd => (Sum.inl kd.1 : Key)).zip vs)) hp1
  refine ⟨G, _, δ, o, δ1, eK, R2, e1, fun y A2 H2 R3 s3 k3 => ?_⟩
  cases o with
  | «at» i => cases e2
  | val dd =>
    cases dd with
    | int x =>
      simp only [Option.map_eq_some_iff] at e2
      obtain ⟨d, e3, e4⟩ := e2
      cases e4
      cases k3
      obtain ⟨v, v1, v2⟩ := dix_val (k1.sub (s2.trans s3)) e3
      have at_ : H2 p = some (.dK ((kds.map fun kd => (Sum.inl kd.1 : Key)).zip vs)) := R3.sub _ _ (s3 _ _ upd_same)
      refine ⟨p, v, rfl, ?_, q v A2 H2 R3 ((s1.trans s2).trans s3) v2⟩
      rw [← v1]
      exact DGet.k (k := Sum.inl x) at_
    | _ => cases e2
end
end IP
end
section
set_option Elab.async false
set_option linter.all false
set_option maxRecDepth 100000
set_option maxHeartbeats 400000
namespace IP
open PySem L2 PySem.Spec PyProof.Rows
section
variable {X : Cx}
theorem cr_srt1 (hc : X.calm = true) : CallR X (.builtin "sorted") (rSortU X.K 1 1000) := cr_sortT (by decide)
end
section
variable {K : PySem.W.Frag}
theorem s_srt1 : BiS K (rSortU K 1 1000) biSrt1 := by
  intro G H0 H δ σ vs ds res eK R r e Q q
  subst eK
  unfold biSrt1 at e
  split at e
  · rename_i i
    split at e
    · rename_i hi
      cases e
      obtain ⟨v, rfl, h⟩ := one r
      obtain ⟨a, xs, rfl, h1, h2⟩ := relT_list R.sub h
      cases h2 with
      | cons h3 h4 =>
        cases h4
        rename_i x
        have ht : ∃ t, x = .ref t ∧ SqT G.K H0 t ([i].map V.int) := by
          cases h3 with
          | tup e1 e2 =>
            cases e2 with
            | cons e3 e4 =>
              cases e4
              cases e3
              exact ⟨_, rfl, e1⟩
        obtain ⟨t, rfl, ht⟩ := ht
        refine ⟨a, [.ref t], rfl, SqL.of h1, (by simp), fun y hy => ?_, fun ys p hp _ hn => ?_⟩
        · rw [List.mem_singleton.mp hy]
          exact ⟨[i], ⟨t, rfl, SqT.sub R.sub ht⟩, rfl, fun m hm => by rw [List.mem_singleton.mp hm]; exact hi⟩
        · rw [List.perm_singleton.mp hp]
          have f := R.freshI hn
          exact q _ _ _ (R.laid hn) (Sub.refl _) ⟨p, _, rfl, upd_same, .cons h3 .nil, f.1, f.2.1, f.2.2⟩
    · cases e
  · cases e
end
end IP
end
section
set_option Elab.async false
set_option linter.all false
set_option maxRecDepth 100000
/-! HeadI: the head of a program that imports. -/
noncomputable section
namespace HeadI
open PySem PySem.W PySem.Calls PyProof.Rows HandSHeadRun
/-- the opening, to the end of its imports -/
def impF (st : SharedT → Thread → Option (SharedT × Thread)) : Nat → SharedT → Thread → Option SharedT
  | 0, _, _ => none
  | n + 1, s, t => match t.atExitBegin with
    | some [] => some s
    | some (_ :: _) => none
    | none => match st s t with
      | some (s', t') => frS s' fun s' => impF st n s' t'
      | none => none
theorem impF_ok {tb : String → Option Builtin} {p : Program} {w : World} : ∀ {m : Nat} {s s' : SharedT} {t : Thread}, impF (stepT (denote tb) p w) m s t = some s' → importEnds tb p w m s.abs t = some s'.abs
  | 0, _, _, _, h => by cases h
  | m + 1, s, s', t, h => by
    have h1 : (match t.atExitBegin with
      | some [] => some s
      | some (_ :: _) => none
      | none => match stepT (denote tb) p w s t with
        | some (s', t') => frS s' fun s' => impF (stepT (denote tb) p w) m s' t'
        | none => none) = some s' := h
    unfold importEnds
    cases ht : t.atExitBegin with
    | some l =>
      rw [ht] at h1
      cases l with
      | nil => cases h1; rfl
      | cons x l => cases h1
    | none =>
      rw [ht] at h1
      cases hs : stepT (denote tb) p w s t with
      | none => rw [hs] at h1; cases h1
      | some r =>
        obtain ⟨s2, t2⟩ := r
        rw [hs] at h1
        have h3 : (frS s2 fun s' => impF (stepT (denote tb) p w) m s' t2) = some s' := h1
        rw [frS_eq] at h3
        have q := impF_ok h3
        show (match step (denote tb) p w s.abs t with
          | .go s' t' => importEnds tb p w m s' t'
          | .halt _ _ => none) = some s'.abs
        rw [stepT_spec hs]
        exact q
/-- the state that all begins with -/
def beginT (p : Program) : SharedT := ⟨.nil, 0, (start p).1.heap.life, (start p).1.gens, (start p).1.drawn, (start p).1.toks, (start p).1.os⟩
theorem beginT_ok (p : Program) : (beginT p).abs = (start p).1 := rfl
/-- a state as a tree -/
def treeOf (s : Shared) : Option SharedT := match putAll s.heap.objs.toList .nil 0 with
  | some (t, n) => some ⟨t, n, s.heap.life, s.gens, s.drawn, s.toks, s.os⟩
  | none => none
theorem treeOf_ok {s : Shared} {T : SharedT} (h : treeOf s = some T) : T.abs = s := by
  unfold treeOf at h
  cases e : putAll s.heap.objs.toList .nil 0 with
  | none => rw [e] at h; cases h
  | some r =>
    obtain ⟨t, n⟩ := r
    rw [e] at h
    cases h
    show (⟨absHeap t n s.heap.life, s.gens, s.drawn, s.toks, s.os⟩ : Shared) = s
    rw [putAll_heap e]
/-- all of it: the opening, the fences, the top -/
def endI {β : Type} (st : Program → SharedT → Thread → Option (SharedT × Thread)) (M1 M2 : Nat) (p : Program) (k : Heap → SharedT → β) : Option (Bool × β) :=
  match impF (st (opening p)) M1 (beginT (opening p)) (start (opening p)).2 with
  | some s1 => match fenceModules? p s1.abs with
    | some s2 => match treeOf s2 with
      | some T => frS T fun T => match goF (st p) T.n (s2.heap.nsMap mainGlobals "__annotations__") M2 T (topStub p) with
        | some s => some (s2.heap.isNs mainGlobals && s2.gens.size == 0, k s2.heap s)
        | none => none
      | none => none
    | none => none
  | none => none
theorem left_imp {p q : Program} {loose : List Str} {Xt : Shared → Bool} {α : Type} {Yf : Shared → α} {Ya : World → α} {N M1 M2 : Nat}
    (l1 : Nat.ble M1 N = true) (l2 : Nat.ble M2 N = true)
    (run : ∀ w : World, endI (fun p => stepT (denote treeTable) p w) M1 M2 p (fun h0 s => (looksF p h0 s.abs, openSeen q loose (importedModules p.main.body) Xt true s.abs, Yf s.abs)) = some (true, true, openGood q loose, Ya w)) :
    LeftO p q loose Xt Yf Ya N true := fun w => by
  have r := run w
  unfold endI at r
  cases e1 : impF (stepT (denote treeTable) (opening p) w) M1 (beginT (opening p)) (start (opening p)).2 with
  | none => rw [e1] at r; cases r
  | some s1 =>
    rw [e1] at r
    dsimp only at r
    cases e2 : fenceModules? p s1.abs with
    | none => rw [e2] at r; cases r
    | some s2 =>
      rw [e2] at r
      dsimp only at r
      cases e3 : treeOf s2 with
      | none => rw [e3] at r; cases r
      | some T =>
        rw [e3] at r
        dsimp only at r
        rw [frS_eq] at r
        cases e4 : goF (stepT (denote treeTable) p w) T.n (s2.heap.nsMap mainGlobals "__annotations__") M2 T (topStub p) with
        | none => rw [e4] at r; cases r
        | some s =>
          rw [e4] at r
          have r : (s2.heap.isNs mainGlobals && s2.gens.size == 0) = true ∧ looksF p s2.heap s.abs = true ∧ openSeen q loose (importedModules p.main.body) Xt true s.abs = openGood q loose ∧ Yf s.abs = Ya w := by simpa only [Option.some.injEq, Prod.mk.injEq] using r
          have hT := treeOf_ok e3
          have hn : s2.heap.objs.size = T.n := by
            rw [← hT]
            exact absHeap_size T.tree T.n T.life
          have i1 := impF_ok e1
          rw [beginT_ok] at i1
          have i2 := importEnds_mono (N - M1) _ _ _ _ i1
          rw [show M1 + (N - M1) = N by have := Nat.le_of_ble_eq_true l1; omega] at i2
          have g := topRun_mono (N - M2) _ _ _ _ (goF_ok e4)
          rw [show M2 + (N - M2) = N by have := Nat.le_of_ble_eq_true l2; omega, hT] at g
          have l : (staticsOk (importedModules p.main.body) s2.heap s.abs.heap && namesBound p s.abs.heap && gensDone s.abs && laidKept s2.heap s.abs.heap) = true := r.2.1
          have t : topFrom treeTable p w N s2 = some s.abs := by
            unfold topFrom
            rw [r.1]
            show (topRun treeTable p w s2.heap.objs.size _ N s2 (topStub p)).bind _ = _
            rw [hn, g]
            show (match staticsOk (importedModules p.main.body) s2.heap s.abs.heap && namesBound p s.abs.heap && gensDone s.abs && laidKept s2.heap s.abs.heap with | true => some s.abs | false => none) = _
            rw [l]
          unfold openEnds fencedOpening
          rw [i2]
          show ((fenceModules? p s1.abs).bind (topFrom treeTable p w N)).map _ = _
          rw [e2]
          show (topFrom treeTable p w N s2).map _ = _
          rw [t]
          exact congrArg some (Prod.ext r.2.2.1 r.2.2.2)
/-- the run's equation, by the library's twins -/
def RunI (r : OpenRow) (q : Program) (H : Hook) (ob : SharedT → H.α) (M1 M2 : Nat) (loose : List PySem.Str) (w : World) : Prop :=
  endI (fun p => stepQ (denQ tabQ) p w) M1 M2 r.prog (fun h0 s => (looksF r.prog h0 s.abs, seenQ q loose (importedModules r.prog.main.body) (fun s => xlAt q [] s && recOk r.toRowW.records s) s.abs, ob s)) = some (true, true, openGood q loose, H.val w)
theorem head_imp {r : OpenRow} {q : Program} {H : Hook} {ob : SharedT → H.α} {M1 M2 : Nat} {loose : List PySem.Str} {d : DefRec} {kwd : List (PySem.Str × PySem.Expr)} (ho : ∀ s : SharedT, ob s = H.obs s.abs)
    (run : ∀ w, RunI r q H ob M1 M2 loose w)
    (hdef : defOf q r.name = some (d, kwd)) (hp : r.prog.theDef r.name = some (d.params, d.body, d.scope)) (hk : kwWritten? d.params.kwonlyargs d.params.kw_defaults = some kwd)
    (hwr : (!r.writes || r.records.isEmpty) = true) (k1 : r.wellSaid = true) (ok : (chainsOk q && opensWell r.prog && (frees r.toRowW && r.within.isEmpty)) = true) (hb : r.prog.bare) (hw : r.toRowW.promised)
    (call : WalkO q loose (XL q []) H.says r.toRowW d kwd fun f vs => PySem.call f vs) : r.Holds := by
  have left : LeftO r.prog q loose (fun s => xlAt q [] s && recOk r.toRowW.records s) H.obs H.val (M1 + M2) true :=
    left_imp (M1 := M1) (M2 := M2) (Nat.ble_eq_true_of_le (by omega)) (Nat.ble_eq_true_of_le (by omega)) fun w => by
      have z := run w
      have eo : ob = fun s => H.obs s.abs := funext ho
      unfold RunI at z
      rw [eo] at z
      have es : (fun p => stepT (denote treeTable) p w) = fun p => stepQ (denQ tabQ) p w := by
        funext p
        rw [stepQ_eq, denQ_eq, tabQ_eq]
      rw [es]
      simp only [seenQ_eq]
      exact z
  exact holds_open (r := r) (q := q) (loose := loose) (XP := XL q []) (YP := H.says) (d := d) (kwd := kwd) left H.of H.keeps (fun s z => xl_of s (Bool.and_eq_true_iff.mp z).1) XL.keeps hdef hp hk (fun s z => recFacts_of (Bool.and_eq_true_iff.mp z).2) hwr k1 ok hb hw call
end HeadI
end
section
set_option linter.all false
/-! Lem: reckoning with IP. -/
namespace IPL
open IP
open PySem (PyData)
abbrev iT (xs : List Int) : D := .tuple (xs.map .int)
abbrev iL (xs : List Int) : D := .list (xs.map .int)
@[simp] theorem intsOf_map (xs : List Int) : intsOf (xs.map .int) = some xs := by
  induction xs with
  | nil => rfl
  | cons x xs ih => simp [intsOf, ih]
@[simp] theorem boolsOf_map (xs : List Bool) : boolsOf (xs.map .bool) = some xs := by
  induction xs with
  | nil => rfl
  | cons x xs ih => simp [boolsOf, ih]
@[simp] theorem intsOf_comp {α : Type} (f : α → Int) (xs : List α) : intsOf (xs.map (PyData.int ∘ f)) = some (xs.map f) := by
  rw [← List.map_map, intsOf_map]
@[simp] theorem intsOf_fun {α : Type} (f : α → Int) (xs : List α) : intsOf (xs.map fun x => PyData.int (f x)) = some (xs.map f) := intsOf_comp f xs
@[simp] theorem boolsOf_comp {α : Type} (f : α → Bool) (xs : List α) : boolsOf (xs.map (PyData.bool ∘ f)) = some (xs.map f) := by
  rw [← List.map_map, boolsOf_map]
@[simp] theorem boolsOf_fun {α : Type} (f : α → Bool) (xs : List α) : boolsOf (xs.map fun x => PyData.bool (f x)) = some (xs.map f) := boolsOf_comp f xs
@[simp] theorem same_ints (xs : List Int) : sameAll (xs.map .int) (xs.map .int) = true := by
  induction xs with
  | nil => simp [sameAll]
  | cons x xs ih => simp [sameAll, same, ih]
/-! ### comprehensions -/
@[simp] def lcTurn (vs : List Nat) (g : Tg) (t : Et) (e : Ev) (x : D) (δ : Env) : Option (Option D × Env) := (g.put x δ).bind fun δ1 => (t δ1).bind fun p => if p.1 = true then
    (e p.2).bind fun r => (unAll vs r.2).map fun δ2 => (some r.1.toD, δ2)
  else (unAll vs p.2).map fun δ2 => (none, δ2)
theorem lcGo_cons {vs : List Nat} {g : Tg} {t : Et} {e : Ev} {src : List D} {ow : Option Nat} {x : D} {xs : List D} {δ : Env} (h : still δ src ow = true) :
    lcGo vs g t e src ow (x :: xs) δ = (lcTurn vs g t e x δ).bind fun p => (lcGo vs g t e src ow xs p.2).map fun q => (p.1.toList ++ q.1, q.2) := by
  rw [lcGo, if_pos h]
  unfold lcTurn
  cases g.put x δ with
  | none => rfl
  | some δ1 =>
    simp only [Option.bind_some]
    cases t δ1 with
    | none => rfl
    | some p =>
      simp only [Option.bind_some]
      by_cases hp : p.1 = true
      · simp only [hp, if_true]
        cases e p.2 with
        | none => rfl
        | some r =>
          simp only [Option.bind_some]
          cases unAll vs r.2 with
          | none => rfl
          | some δ2 =>
            simp only [Option.bind_some, Option.map_some]
            rfl
      · simp only [hp, if_false]
        cases unAll vs p.2 with
        | none => rfl
        | some δ2 =>
          simp only [Option.bind_some, Option.map_some]
          show lcGo vs g t e src ow xs δ2 = (lcGo vs g t e src ow xs δ2).map fun q => (([] : List D) ++ q.1, q.2)
          cases lcGo vs g t e src ow xs δ2 with
          | none => rfl
          | some q => rfl
/-- every turn leaves the environment as it was -/
theorem lcGo_pure {α : Type} {vs : List Nat} {g : Tg} {t : Et} {e : Ev} {src : List D} {ow : Option Nat} {δ : Env} (enc : α → D) (f : α → Option D) (hst : still δ src ow = true) :
    ∀ (xs : List α), (∀ x ∈ xs, lcTurn vs g t e (enc x) δ = some (f x, δ)) → lcGo vs g t e src ow (xs.map enc) δ = some (xs.filterMap f, δ)
  | [], _ => by simp [lcGo, hst]
  | x :: xs, h => by
    rw [List.map_cons, lcGo_cons hst, h x List.mem_cons_self]
    simp only [Option.bind_some]
    rw [lcGo_pure enc f hst xs fun y hy => h y (List.mem_cons_of_mem _ hy), List.filterMap_cons]
    cases f x <;> rfl
theorem lcGo_map {α : Type} {vs : List Nat} {g : Tg} {t : Et} {e : Ev} {src : List D} {ow : Option Nat} {δ : Env} (enc : α → D) (f : α → D) (hst : still δ src ow = true) (xs : List α) (h : ∀ x ∈ xs, lcTurn vs g t e (enc x) δ = some (some (f x), δ)) :
    lcGo vs g t e src ow (xs.map enc) δ = some (xs.map f, δ) := by
  rw [lcGo_pure enc (fun x => some (f x)) hst xs h]
  rw [show xs.filterMap (fun x => some (f x)) = xs.map f from congrFun List.filterMap_eq_map xs]
/-! ### loops -/
theorem forGo_inv {α : Type} {g : Tg} {b : Es} (enc : α → D) (P : Nat → Env → Prop) : ∀ (xs : List α) (k : Nat) (δ : Env), P k δ →
    (∀ i x δ, xs[i]? = some x → P (k + i) δ → ∃ δ1 δ2 o, g.put (enc x) δ = some δ1 ∧ b δ1 = some (o, δ2) ∧ (o = .nx ∨ o = .ct) ∧ P (k + i + 1) δ2) → ∃ δ', forGo g b (xs.map enc) δ = some (.nx, δ') ∧ P (k + xs.length) δ'
  | [], k, δ, h0, _ => ⟨δ, rfl, h0⟩
  | x :: xs, k, δ, h0, h => by
    obtain ⟨δ1, δ2, o, e1, e2, e3, e4⟩ := h 0 x δ rfl h0
    obtain ⟨δ', a1, a2⟩ := forGo_inv enc P xs (k + 1) δ2 e4 fun i y δ hy hp => by
      have := h (i + 1) y δ (by simpa using hy) (by rw [show k + (i + 1) = k + 1 + i by omega]; exact hp)
      rw [show k + (i + 1) + 1 = k + 1 + i + 1 by omega] at this
      exact this
    refine ⟨δ', ?_, by rw [List.length_cons, show k + (xs.length + 1) = k + 1 + xs.length by omega]; exact a2⟩
    rw [List.map_cons, forGo, e1]
    simp only [Option.bind_some, e2]
    rcases e3 with rfl | rfl <;> exact a1
/-- a loop that looks for the first item with c -/
theorem forGo_find {α : Type} {g : Tg} {b : Es} (enc : α → D) (P : Env → Prop) (c : α → Bool) (r : α → Res) : ∀ (xs : List α) (δ : Env), P δ →
    (∀ x δ, x ∈ xs → P δ → ∃ δ1 δ2, g.put (enc x) δ = some δ1 ∧ P δ2 ∧ b δ1 = some (if c x = true then .rt (r x) else .nx, δ2)) →
    ∃ δ', P δ' ∧ forGo g b (xs.map enc) δ = some ((match xs.find? c with | none => .nx | some x => .rt (r x)), δ')
  | [], δ, h0, _ => ⟨δ, h0, rfl⟩
  | x :: xs, δ, h0, h => by
    obtain ⟨δ1, δ2, e1, e2, e3⟩ := h x δ List.mem_cons_self h0
    rw [List.map_cons, forGo, e1]
    simp only [Option.bind_some, e3]
    by_cases hc : c x = true
    · refine ⟨δ2, e2, ?_⟩
      simp [hc]
    · obtain ⟨δ', a1, a2⟩ := forGo_find enc P c r xs δ2 e2 fun y δ hy hp => h y δ (List.mem_cons_of_mem _ hy) hp
      refine ⟨δ', a1, ?_⟩
      simp [hc, a2]
theorem whileGo_inv {t : Et} {b : Es} (P Q : Env → Prop) (μ : Env → Nat) (h : ∀ δ, P δ → (∃ δ1, t δ = some (false, δ1) ∧ Q δ1) ∨ (∃ δ1 δ2 o, t δ = some (true, δ1) ∧ b δ1 = some (o, δ2) ∧ (o = .nx ∨ o = .ct) ∧ P δ2 ∧ μ δ2 < μ δ)) :
    ∀ (n : Nat) (δ : Env), P δ → μ δ < n → ∃ δ', whileGo t b n δ = some (.nx, δ') ∧ Q δ'
  | 0, δ, _, h => by omega
  | n + 1, δ, hp, hn => by
    rw [whileGo]
    rcases h δ hp with ⟨δ1, e1, e2⟩ | ⟨δ1, δ2, o, e1, e2, e3, e4, e5⟩
    · exact ⟨δ1, by simp [e1], e2⟩
    · obtain ⟨δ', a1, a2⟩ := whileGo_inv P Q μ h n δ2 e4 (by omega)
      refine ⟨δ', ?_, a2⟩
      simp only [e1, Option.bind_some, if_true, e2]
      rcases e3 with rfl | rfl <;> exact a1
/-! ### items -/
theorem ixN_nat {n j : Nat} (h : j < n) : IP.ixN n (j : Int) = some j := by
  unfold IP.ixN
  rw [if_pos (by omega), if_pos (by omega)]
  simp
@[simp] theorem atD_ints (xs : List Int) (i : Int) : atD (xs.map .int) i = ((IP.ixN xs.length i).bind fun j => xs[j]?).map .int := by
  unfold atD
  simp only [List.length_map, List.getElem?_map]
  cases IP.ixN xs.length i <;> simp
@[simp] theorem cutD_ints (xs : List Int) (lo hi : Option Int) : cutD (xs.map .int) lo hi = ((xs.drop (clampIx xs.length 0 lo)).take (clampIx xs.length xs.length hi - clampIx xs.length 0 lo)).map .int := by
  unfold cutD
  simp
theorem rangeD_eq (lo : Int) (n : Nat) : rangeD lo n = (List.range n).map fun (k : Nat) => .int (lo + (k : Int)) := rfl
theorem downD_eq (hi : Int) (n : Nat) : downD hi n = (List.range n).map fun (k : Nat) => .int (hi - (k : Int)) := rfl
theorem enumD_eq : ∀ (k : Nat) (xs : List D), enumD k xs = (List.range xs.length).map fun (i : Nat) => .tuple [.int ((k + i : Nat) : Int), xs.getD i .none]
  | _, [] => rfl
  | k, x :: xs => by
    rw [enumD, enumD_eq (k + 1) xs, List.length_cons, List.range_succ_eq_map, List.map_cons, List.map_map]
    simp only [Nat.add_zero, List.getD_cons_zero]
    congr 1
    apply List.map_congr_left
    intro i _
    simp [Nat.add_comm, Nat.add_left_comm]
end IPL
end
section
set_option linter.all false
/-! Ev: the rules by which a body is reckoned, one a construct. -/
namespace EV
open IP
open PySem (PyData)
variable {δ δ1 δ2 δ3 δ4 δ' : Env} {d x y z : D} {r r' : Res} {o o' : Out} {b b' : Bool} {i j k : Nat} {ds es xs ys : List D} {s : Slot} {p q : Opd} {os : List Opd}
abbrev iT (xs : List Int) : D := .tuple (xs.map .int)
abbrev iL (xs : List Int) : D := .list (xs.map .int)
/-! slots -/
theorem g_0 : (s :: δ)[0]? = some s := rfl
theorem g_s (h : δ[i]? = some s) {t : Slot} : (t :: δ)[i + 1]? = some s := h
theorem st_0u : setSlot (.un :: δ) 0 s = some (s :: δ) := rfl
theorem st_0d : setSlot (.dat d :: δ) 0 s = some (s :: δ) := rfl
theorem st_0o : setSlot (.own ds :: δ) 0 s = some (s :: δ) := rfl
theorem st_s {t : Slot} (h : setSlot δ i s = some δ') : setSlot (t :: δ) (i + 1) s = some (t :: δ') := by
  simp only [setSlot, List.getElem?_cons_succ, List.set_cons_succ] at h ⊢
  cases h' : δ[i]? with
  | none => simp [h'] at h
  | some sl => cases sl <;> simp_all
theorem ls_0 {t : Slot} : (t :: δ).set 0 s = s :: δ := rfl
theorem ls_s {t : Slot} (h : δ.set i s = δ') : (t :: δ).set (i + 1) s = t :: δ' := by rw [List.set_cons_succ, h]
theorem td_d : Res.toD (.dat d) = d := rfl
theorem td_n : Res.toD (.new ds) = .list ds := rfl
theorem so_d : slotOf (.dat d) = .dat d := rfl
theorem so_n : slotOf (.new ds) = .own ds := rfl
theorem rd_v : rd δ (.val d) = some d := rfl
theorem rd_o (h : δ[i]? = some (.own ds)) : rd δ (.at i) = some (.list ds) := by simp [rd, h]
theorem rd_p (h : δ[i]? = some (.prm ds)) : rd δ (.at i) = some (.list ds) := by simp [rd, h]
theorem ra_n : rdAll δ [] = some [] := rfl
theorem ra_c (h : rd δ p = some d) (h2 : rdAll δ os = some ds) : rdAll δ (p :: os) = some (d :: ds) := by
  rw [rdAll, h, h2]
  rfl
theorem vs_n : vals [] = some [] := rfl
theorem vs_c (h : vals os = some ds) : vals (.val d :: os) = some (d :: ds) := by simp [vals, h]
/-! values -/
theorem e_C : vC d δ = some (.dat d, δ) := rfl
theorem e_var (h : δ[i]? = some (.dat d)) : vVar i δ = some (.dat d, δ) := by simp [vVar, h]
theorem e_varO (h : δ[i]? = some (.own ds)) (h2 : δ.set i (.dat (.list ds)) = δ') : vVar i δ = some (.dat (.list ds), δ') := by simp [vVar, freeze, h, h2]
theorem o_var (h : δ[i]? = some (.dat d)) : oVar i δ = some (.val d, δ) := by simp [oVar, h]
theorem o_own (h : δ[i]? = some (.own ds)) : oVar i δ = some (.at i, δ) := by simp [oVar, h]
theorem o_prm (h : δ[i]? = some (.prm ds)) : oVar i δ = some (.at i, δ) := by simp [oVar, h]
theorem o_V {f : Ev} (h : f δ = some (r, δ1)) (h2 : r.toD = d) : oV f δ = some (.val d, δ1) := by
  rw [oV, h, ← h2]
  rfl
theorem e_bin {op : D → D → Option Res} {f g : Eo} (h1 : f δ = some (p, δ1)) (h2 : g δ1 = some (q, δ2)) (h3 : rd δ2 p = some x) (h4 : rd δ2 q = some y) (h5 : op x y = some r) : fBin op f g δ = some (r, δ2) := by
  simp only [fBin, h1, h2, h3, h4, h5, Option.bind_some, Option.map_some]
theorem e_un {op : D → Option Res} {f : Eo} (h1 : f δ = some (p, δ1)) (h3 : rd δ1 p = some x) (h5 : op x = some r) : fUn op f δ = some (r, δ1) := by
  simp only [fUn, h1, h3, h5, Option.bind_some, Option.map_some]
theorem e_not {f : Ev} (h : f δ = some (.dat (.bool b), δ1)) : vNot f δ = some (.dat (.bool (!b)), δ1) := by simp [vNot, h]
def andV (b : Bool) (g : Ev) (δ : Env) : Option (Res × Env) := if b = true then g δ else some (.dat (.bool false), δ)
def orV (b : Bool) (g : Ev) (δ : Env) : Option (Res × Env) := if b = true then some (.dat (.bool true), δ) else g δ
theorem andV_t {g : Ev} {R : Option (Res × Env)} (hb : b = true) (h : g δ = R) : andV b g δ = R := by rw [andV, if_pos hb, h]
theorem andV_f {g : Ev} (hb : b = false) : andV b g δ = some (.dat (.bool false), δ) := by rw [andV, hb]; rfl
theorem orV_t {g : Ev} (hb : b = true) : orV b g δ = some (.dat (.bool true), δ) := by rw [orV, if_pos hb]
theorem orV_f {g : Ev} {R : Option (Res × Env)} (hb : b = false) (h : g δ = R) : orV b g δ = R := by rw [orV, hb, ← h]; rfl
theorem e_and {f g : Ev} (h1 : f δ = some (.dat (.bool b), δ1)) (h2 : andV b g δ1 = some (r, δ2)) : vAnd f g δ = some (r, δ2) := by rw [vAnd_s, h1]; exact h2
theorem e_or {f g : Ev} (h1 : f δ = some (.dat (.bool b), δ1)) (h2 : orV b g δ1 = some (r, δ2)) : vOr f g δ = some (r, δ2) := by rw [vOr_s, h1]; exact h2
def iteV (b : Bool) (f g : Ev) (δ : Env) : Option (Res × Env) := if b = true then f δ else g δ
theorem iteV_t {f g : Ev} {R : Option (Res × Env)} (hb : b = true) (h : f δ = R) : iteV b f g δ = R := by rw [iteV, if_pos hb, h]
theorem iteV_f {f g : Ev} {R : Option (Res × Env)} (hb : b = false) (h : g δ = R) : iteV b f g δ = R := by rw [iteV, hb, ← h]; rfl
theorem e_ite {t : Et} {f g : Ev} (h1 : t δ = some (b, δ1)) (h2 : iteV b f g δ1 = some (r, δ2)) : vIte t f g δ = some (r, δ2) := by simp only [vIte, h1, Option.bind_some]; exact h2
def chK (b : Bool) (h : Eo) (o2 : D → D → Option Res) (q : Opd) (δ : Env) : Option (Res × Env) :=
  if b = true then (h δ).bind fun u => (rd u.2 q).bind fun y' => (rd u.2 u.1).bind fun z => (o2 y' z).map fun r => (r, u.2) else some (.dat (.bool false), δ)
theorem chK_t {h : Eo} {o2 : D → D → Option Res} (hb : b = true) (h1 : h δ = some (p, δ1)) (h2 : rd δ1 q = some y) (h3 : rd δ1 p = some z) (h4 : o2 y z = some r) : chK b h o2 q δ = some (r, δ1) := by
  simp only [chK, hb, if_true, h1, h2, h3, h4, Option.bind_some, Option.map_some]
theorem chK_f {h : Eo} {o2 : D → D → Option Res} (hb : b = false) : chK b h o2 q δ = some (.dat (.bool false), δ) := by rw [chK, hb]; rfl
theorem e_chain {o1 o2 : D → D → Option Res} {f g h : Eo} (h1 : f δ = some (p, δ1)) (h2 : g δ1 = some (q, δ2)) (h3 : rd δ2 p = some x) (h4 : rd δ2 q = some y) (h5 : o1 x y = some (.dat (.bool b))) (h6 : chK b h o2 q δ2 = some (r, δ3)) : vChain o1 o2 f g h δ = some (r, δ3) := by
  rw [vChain_s, h1]
  simp only [Option.bind_some, h2, h3, h4, h5, asB]
  exact h6
theorem e_tup {f : Ea} (h : f δ = some (os, δ1)) (h2 : vals os = some ds) (h3 : ds.length ≤ line) : vTup f δ = some (.dat (.tuple ds), δ1) := by simp only [vTup, h, h2, Option.bind_some, if_pos h3]
theorem e_lst {f : Ea} (h : f δ = some (os, δ1)) (h2 : vals os = some ds) (h3 : ds.length ≤ line) : vLst f δ = some (.new ds, δ1) := by simp only [vLst, h, h2, Option.bind_some, if_pos h3]
theorem e_bi {bb : List D → Option Res} {f : Ea} (h : f δ = some (os, δ1)) (h2 : rdAll δ1 os = some ds) (h3 : bb ds = some r) : vBi bb f δ = some (r, δ1) := by simp only [vBi, h, h2, h3, Option.bind_some, Option.map_some]
theorem a_n : aNil δ = some ([], δ) := rfl
theorem a_c {f : Eo} {g : Ea} (h : f δ = some (p, δ1)) (h2 : g δ1 = some (os, δ2)) : aCons f g δ = some (p :: os, δ2) := by simp [aCons, h, h2]
theorem e_call {c : Fnc} {f : Ea} (h1 : f δ = some (os, δ1)) (h2 : rdAll δ1 os = some ds) (h0 : anyAt os = false) (h3 : c none ds = some (r, none)) : vCall c f δ = some (r, δ1) := by
  simp only [vCall, h1, h2, h3, Option.bind_some, if_pos h0]
theorem e_callD {c : Fnc} {f : Ea} (h1 : f δ = some (os, δ1)) (h2 : rdAll δ1 os = some ds) (h3 : c none ds = some (.dat d, none)) (h0 : noList d = true) : vCall c f δ = some (.dat d, δ1) := by
  simp only [vCall, h1, h2, h3, Option.bind_some, h0]
  split <;> rfl
theorem e_callN {c : Fnc} {f : Ea} (h1 : f δ = some (os, δ1)) (h2 : rdAll δ1 os = some ds) (h3 : c none ds = some (.new es, none)) (h0 : noListAll es = true) : vCall c f δ = some (.new es, δ1) := by
  simp only [vCall, h1, h2, h3, Option.bind_some, h0]
  split <;> rfl
theorem ow_o (h : δ[i]? = some (.own ds)) : ownAt δ i = true := by simp [ownAt, h]
theorem ow_p (h : δ[i]? = some (.prm ds)) : ownAt δ i = true := by simp [ownAt, h]
theorem e_callRo {c : Fnc} {f : Ea} (h0 : ownAt δ i = true) (h1 : f δ = some (os, δ1)) (h2 : vals os = some ds) (h3 : δ1[i]? = some (.own xs)) (h4 : c (some xs) ds = some (r, some ys)) (h5 : δ1.set i (.own ys) = δ2) : vCallR c i f δ = some (r, δ2) := by
  simp only [vCallR, h0, if_true, h1, h2, h3, h4, h5, Option.bind_some]
theorem e_callRp {c : Fnc} {f : Ea} (h0 : ownAt δ i = true) (h1 : f δ = some (os, δ1)) (h2 : vals os = some ds) (h3 : δ1[i]? = some (.prm xs)) (h4 : c (some xs) ds = some (r, some ys)) (h5 : δ1.set i (.prm ys) = δ2) : vCallR c i f δ = some (r, δ2) := by
  simp only [vCallR, h0, if_true, h1, h2, h3, h4, h5, Option.bind_some]
/-! slices -/
theorem pn : pNo δ = some (none, δ) := rfl
theorem ps {f : Eo} {v : Int} (h : f δ = some (.val (.int v), δ1)) : pSo f δ = some (some v, δ1) := by simp [pSo, h]
def cutR (x : D) (lo hi : Option Int) : Option Res := match x with
  | .list xs => some (.new (cutD xs lo hi))
  | .tuple xs => some (.dat (.tuple (cutD xs lo hi)))
  | _ => none
theorem e_sl {f : Eo} {lo hi : Env → Option (Option Int × Env)} {l h : Option Int} (h1 : f δ = some (p, δ1)) (h2 : lo δ1 = some (l, δ2)) (h3 : hi δ2 = some (h, δ3)) (h4 : rd δ3 p = some x) (h5 : cutR x l h = some r) : fSl f lo hi δ = some (r, δ3) := by
  simp only [fSl, h1, h2, h3, h4, Option.bind_some]
  cases x <;> simp only [cutR, reduceCtorEq] at h5 <;> cases h5 <;> rfl
theorem clampN {n a : Nat} (h : a ≤ n) (d : Nat) : clampIx n d (some (a : Int)) = a := by
  simp only [clampIx]
  rw [if_neg (by omega), Int.toNat_natCast]
  omega
theorem clampBig {n a : Nat} (h : n ≤ a) (d : Nat) : clampIx n d (some (a : Int)) = n := by
  simp only [clampIx]
  rw [if_neg (by omega), Int.toNat_natCast]
  omega
theorem clampNeg {n a d : Nat} (h : a ≤ n) (h0 : 0 < a) : clampIx n d (some (-(a : Int))) = n - a := by
  simp only [clampIx]
  rw [if_pos (by omega)]
  omega
theorem cutTo (zs : List D) (a : Nat) : cutD zs none (some (a : Int)) = zs.take a := by
  unfold cutD
  rw [show clampIx zs.length 0 none = 0 from rfl, List.drop_zero, Nat.sub_zero]
  by_cases h : a ≤ zs.length
  · rw [clampN h]
  · rw [clampBig (by omega), List.take_of_length_le (Nat.le_refl _), List.take_of_length_le (by omega)]
theorem cutFrom (zs : List D) (a : Nat) : cutD zs (some (a : Int)) none = zs.drop a := by
  unfold cutD
  rw [show clampIx zs.length zs.length none = zs.length from rfl]
  by_cases h : a ≤ zs.length
  · rw [clampN h, List.take_of_length_le (by simp)]
  · rw [clampBig (by omega), List.drop_of_length_le (l := zs) (i := a) (by omega), List.drop_of_length_le (Nat.le_refl _)]
    simp
theorem cut_toT {zs : List Int} {a : Nat} : cutR (iT zs) none (some (a : Int)) = some (.dat (iT (zs.take a))) := by simp [cutR, cutTo]
theorem cut_toL {zs : List Int} {a : Nat} : cutR (iL zs) none (some (a : Int)) = some (.new ((zs.take a).map .int)) := by simp [cutR, cutTo]
theorem cut_frT {zs : List Int} {a : Nat} : cutR (iT zs) (some (a : Int)) none = some (.dat (iT (zs.drop a))) := by simp [cutR, cutFrom]
theorem cut_frL {zs : List Int} {a : Nat} : cutR (iL zs) (some (a : Int)) none = some (.new ((zs.drop a).map .int)) := by simp [cutR, cutFrom]
theorem cut_lastT {zs : List Int} : cutR (iT zs) none (some (-1)) = some (.dat (iT zs.dropLast)) := by
  simp only [cutR, cutD, Option.some.injEq, Res.dat.injEq, PyData.tuple.injEq]
  rw [show clampIx (zs.map PyData.int).length 0 none = 0 from rfl, List.drop_zero, Nat.sub_zero, ← List.map_take, List.dropLast_eq_take]
  congr 2
  simp [clampIx]
  omega
theorem cut_lastL {zs : List Int} : cutR (iL zs) none (some (-1)) = some (.new (zs.dropLast.map .int)) := by
  have := cut_lastT (zs := zs)
  simp only [cutR, Option.some.injEq, Res.dat.injEq, PyData.tuple.injEq] at this
  simp only [cutR, this]
/-! operators -/
variable {a c v w : Int} {us vs : List Int}
theorem p_add : bAdd (.int a) (.int c) = some (.dat (.int (a + c))) := rfl
theorem p_addT (h : us.length + vs.length ≤ line) : bAdd (iT us) (iT vs) = some (.dat (iT (us ++ vs))) := by simp only [bAdd, List.length_map, if_pos h, ← List.map_append]
theorem p_addL (h : us.length + vs.length ≤ line) : bAdd (iL us) (iL vs) = some (.new ((us ++ vs).map .int)) := by simp only [bAdd, List.length_map, if_pos h, ← List.map_append]
theorem p_addTs (h : us.length + 1 ≤ line) : bAdd (iT us) (.tuple [.int v]) = some (.dat (iT (us ++ [v]))) := p_addT (vs := [v]) h
theorem p_addsT (h : 1 + us.length ≤ line) : bAdd (.tuple [.int v]) (iT us) = some (.dat (iT (v :: us))) := by
  have := p_addT (us := [v]) (vs := us) (by simpa using h)
  simpa using this
theorem p_sub : bSub (.int a) (.int c) = some (.dat (.int (a - c))) := rfl
theorem p_mulL (h : -18446744073709551616 < a ∧ a < 18446744073709551616) : bMul (.int a) (.int c) = some (.dat (.int (a * c))) := by
  rw [bMul, if_pos (.inl (.inl h))]
theorem p_mulR (h : -18446744073709551616 < c ∧ c < 18446744073709551616) : bMul (.int a) (.int c) = some (.dat (.int (a * c))) := by
  rw [bMul, if_pos (.inl (.inr h))]
theorem p_mulB (h : a.natAbs.log2 + c.natAbs.log2 < 1000000) : bMul (.int a) (.int c) = some (.dat (.int (a * c))) := by
  rw [bMul, if_pos (.inr h)]
theorem p_fdiv (h : 0 < c) (h2 : c < 1073741824) : bFdiv (.int a) (.int c) = some (.dat (.int (a / c))) := by rw [bFdiv, if_pos ⟨h, .inl h2⟩]
theorem p_fdivB (h : 0 < c) (h2 : c.natAbs.log2 < 9000) : bFdiv (.int a) (.int c) = some (.dat (.int (a / c))) := by rw [bFdiv, if_pos ⟨h, .inr h2⟩]
theorem p_mod (h : 0 < c) : bMod (.int a) (.int c) = some (.dat (.int (a % c))) := by rw [bMod, if_pos h]
theorem p_lt : bLt (.int a) (.int c) = some (.dat (.bool (decide (a < c)))) := rfl
theorem p_le : bLe (.int a) (.int c) = some (.dat (.bool (decide (a ≤ c)))) := rfl
theorem p_gt : bGt (.int a) (.int c) = some (.dat (.bool (decide (c < a)))) := rfl
theorem p_ge : bGe (.int a) (.int c) = some (.dat (.bool (decide (c ≤ a)))) := rfl
theorem p_neg : uNeg (.int a) = some (.dat (.int (-a))) := rfl
theorem shI (v : Int) : PySem.SeqAt.shaped (.int v) = true := by simp [PySem.SeqAt.shaped, PySem.PyData.canLay0, PySem.PyData.depth]
theorem shN : PySem.SeqAt.shaped .none = true := by simp [PySem.SeqAt.shaped, PySem.PyData.canLay0, PySem.PyData.depth]
theorem shB (v : Bool) : PySem.SeqAt.shaped (.bool v) = true := by simp [PySem.SeqAt.shaped, PySem.PyData.canLay0, PySem.PyData.depth]
theorem beqI : (a == c) = decide (a = c) := by by_cases h : a = c <;> simp [h]
theorem p_eq : bEq (.int a) (.int c) = some (.dat (.bool (decide (a = c)))) := by rw [bEq, if_pos ⟨shI a, shI c⟩, PyData.eqv, beqI]
theorem p_ne : bNe (.int a) (.int c) = some (.dat (.bool (!decide (a = c)))) := by rw [bNe, if_pos ⟨shI a, shI c⟩, PyData.eqv, beqI]
theorem p_eqB : bEq (.bool b) (.bool b') = some (.dat (.bool (decide (b = b')))) := by
  rw [bEq, if_pos ⟨shB b, shB b'⟩, PyData.eqv]
  cases b <;> cases b' <;> rfl
theorem p_neB : bNe (.bool b) (.bool b') = some (.dat (.bool (!decide (b = b')))) := by
  rw [bNe, if_pos ⟨shB b, shB b'⟩, PyData.eqv]
  cases b <;> cases b' <;> rfl
theorem p_xor (h : 0 ≤ a) (h2 : 0 ≤ c) : bXor (.int a) (.int c) = some (.dat (.int ((a.toNat ^^^ c.toNat : Nat) : Int))) := by rw [bXor, if_pos ⟨h, h2⟩]
theorem p_and (h : 0 ≤ a) (h2 : 0 ≤ c) : bAnd (.int a) (.int c) = some (.dat (.int ((a.toNat &&& c.toNat : Nat) : Int))) := by rw [bAnd, if_pos ⟨h, h2⟩]
theorem p_bits {m : Nat} (h : m ≠ 0) : uBits (.int (m : Int)) = some (.dat (.int ((m.log2 + 1 : Nat) : Int))) := by
  simp only [uBits]
  rw [if_neg (by omega)]
  rfl
theorem ixNn {n m : Nat} (h : m < n) : IP.ixN n (m : Int) = some m := by
  unfold IP.ixN
  rw [if_pos (by omega), if_pos (by omega)]
  simp
theorem p_ixT {m : Nat} (h : m < us.length) : bIx (iT us) (.int (m : Int)) = some (.dat (.int (us.getD m 0))) := by
  simp only [bIx, atD, List.length_map, ixNn h, Option.bind_some]
  rw [List.getElem?_map, List.getElem?_eq_getElem h]
  simp [List.getD, h]
theorem p_ixL {m : Nat} (h : m < us.length) : bIx (iL us) (.int (m : Int)) = some (.dat (.int (us.getD m 0))) := by
  simp only [bIx, atD, List.length_map, ixNn h, Option.bind_some]
  rw [List.getElem?_map, List.getElem?_eq_getElem h]
  simp [List.getD, h]
theorem p_ixT' (h0 : 0 ≤ a) (h : a < us.length) : bIx (iT us) (.int a) = some (.dat (.int (us.getD a.toNat 0))) := by
  obtain ⟨m, rfl⟩ : ∃ m : Nat, (m : Int) = a := ⟨a.toNat, by omega⟩
  rw [p_ixT (by omega), Int.toNat_natCast]
theorem p_ixL' (h0 : 0 ≤ a) (h : a < us.length) : bIx (iL us) (.int a) = some (.dat (.int (us.getD a.toNat 0))) := by
  obtain ⟨m, rfl⟩ : ∃ m : Nat, (m : Int) = a := ⟨a.toNat, by omega⟩
  rw [p_ixL (by omega), Int.toNat_natCast]
theorem p_revT : uRev (iT us) = some (.dat (iT us.reverse)) := by simp only [uRev, ← List.map_reverse]
theorem p_revL : uRev (iL us) = some (.new (us.reverse.map .int)) := by simp only [uRev, ← List.map_reverse]
/-! builtins -/
theorem b_lenT : biLen [iT us] = some (.dat (.int us.length)) := by simp only [biLen, List.length_map]
theorem b_lenL : biLen [iL us] = some (.dat (.int us.length)) := by simp only [biLen, List.length_map]
theorem b_lenL' : biLen [.list ds] = some (.dat (.int ds.length)) := rfl
theorem b_lenT' : biLen [.tuple ds] = some (.dat (.int ds.length)) := rfl
theorem b_int : biInt [.int a] = some (.dat (.int a)) := rfl
theorem b_intB : biInt [.bool b] = some (.dat (.int (if b then 1 else 0))) := rfl
theorem b_tupL : biTuple [.list ds] = some (.dat (.tuple ds)) := rfl
theorem b_tupT : biTuple [.tuple ds] = some (.dat (.tuple ds)) := rfl
theorem b_lstL : biList [.list ds] = some (.new ds) := rfl
theorem b_lstT : biList [.tuple ds] = some (.new ds) := rfl
theorem b_sum : biSum [iL us] = some (.dat (.int us.sum)) := by simp only [biSum, IPL.intsOf_map, Option.map_some]
theorem b_abs : biAbs [.int a] = some (.dat (.int (if a < 0 then -a else a))) := rfl
theorem b_max : biMax [.int a, .int c] = some (.dat (.int (if c > a then c else a))) := rfl
theorem b_min : biMin [.int a, .int c] = some (.dat (.int (if c < a then c else a))) := rfl
theorem b_gcd : biGcd [.int a, .int c] = some (.dat (.int ((Nat.gcd a.natAbs c.natAbs : Nat) : Int))) := rfl
theorem l_n (n : Nat) : ([] : List D).length ≤ line := by decide
/-! what is walked -/
theorem i_E {f : Eo} (h : f δ = some (.val (.list ds), δ1)) : iE f δ = some ((ds, none), δ1) := by simp [iE, h, own?]
theorem i_ET {f : Eo} (h : f δ = some (.val (.tuple ds), δ1)) : iE f δ = some ((ds, none), δ1) := by simp [iE, h, own?]
theorem i_EO {f : Eo} (h : f δ = some (.at i, δ1)) (h2 : rd δ1 (.at i) = some (.list ds)) : iE f δ = some ((ds, some i), δ1) := by
  simp only [iE, h, Option.bind_some, h2]
  rfl
theorem i_rL {f : Eo} {zs : List Int} (h : f δ = some (.val (iL zs), δ1)) : iRevS f δ = some ((zs.reverse.map .int, none), δ1) := by simp [iRevS, h]
theorem i_rT {f : Eo} {zs : List Int} (h : f δ = some (.val (iT zs), δ1)) : iRevS f δ = some ((zs.reverse.map .int, none), δ1) := by simp [iRevS, h]
abbrev encN (k : Nat) : D := .int (k : Int)
abbrev encFrom (a : Int) (k : Nat) : D := .int (a + (k : Int))
theorem i_r1 {f : Eo} {n : Nat} (h : f δ = some (.val (.int (n : Int)), δ1)) (h2 : n ≤ 1000000000) : iRange1 f δ = some (((List.range n).map encN, none), δ1) := by
  rw [iRange1_at h (by omega)]
  simp [rangeD]
theorem i_r1' {f : Eo} (h : f δ = some (.val (.int a), δ1)) (h2 : a ≤ 1000000000) (h3 : -1000000000 ≤ a) : iRange1 f δ = some (((List.range a.toNat).map encN, none), δ1) := by
  rw [iRange1_at h (by omega)]
  simp [rangeD]
theorem i_r2 {f g : Eo} (h : f δ = some (.val (.int a), δ1)) (h1 : g δ1 = some (.val (.int c), δ2)) (h2 : a ≤ 1000000000) (h3 : -1000000000 ≤ a) (h4 : c ≤ 1000000000) (h5 : -1000000000 ≤ c) : iRange2 f g δ = some (((List.range (c - a).toNat).map (encFrom a), none), δ2) := by
  rw [iRange2_at h h1 (by omega) (by omega)]
  rfl
abbrev enc2 (p : Int × Int) : D := .tuple [.int p.1, .int p.2]
theorem zipD_ints : ∀ us vs : List Int, zipD (us.map .int) (vs.map .int) = (us.zip vs).map enc2
  | [], vs => by simp [zipD]
  | u :: us, [] => by simp [zipD]
  | u :: us, v :: vs => by simp [zipD, zipD_ints us vs]
theorem i_zT {f g : Eo} (h : f δ = some (.val (iT us), δ1)) (h1 : g δ1 = some (.val (iT vs), δ2)) : iZip f g δ = some (((us.zip vs).map enc2, none), δ2) := by simp [iZip, h, h1, zipD_ints]
theorem i_zL {f g : Eo} (h : f δ = some (.val (iL us), δ1)) (h1 : g δ1 = some (.val (iL vs), δ2)) : iZip f g δ = some (((us.zip vs).map enc2, none), δ2) := by simp [iZip, h, h1, zipD_ints]
/-! targets -/
theorem t_nm (h : setSlot δ i (.dat d) = some δ1) : (Tg.nm i).put d δ = some δ1 := h
theorem t_tup {is : List Nat} (h : setDs δ is ds = some δ1) : (Tg.tup is).put (.tuple ds) δ = some δ1 := h
theorem sd_n : setDs δ [] [] = some δ := rfl
theorem sd_c {is : List Nat} (h : setSlot δ i (.dat d) = some δ1) (h2 : setDs δ1 is ds = some δ2) : setDs δ (i :: is) (d :: ds) = some δ2 := by simp only [setDs, h, Option.bind_some, h2]
/-! comprehensions -/
theorem u_n : unAll [] δ = some δ := rfl
theorem u_u {is : List Nat} (h : δ[i]? = some .un) (h2 : unAll is δ = some δ1) : unAll (i :: is) δ = some δ1 := by simp only [unAll, h, h2]
theorem u_d {is : List Nat} (h : δ[i]? = some (.dat d)) (h2 : δ.set i .un = δ1) (h3 : unAll is δ1 = some δ2) : unAll (i :: is) δ = some δ2 := by simp only [unAll, h, h2, h3]
theorem ba_n {δ0 : Env} : backAll δ0 [] δ = δ := rfl
theorem ba_c {δ0 : Env} {is : List Nat} (h : δ0[i]? = some s) (h2 : δ.set i s = δ1) (h3 : backAll δ0 is δ1 = δ2) : backAll δ0 (i :: is) δ = δ2 := by simp only [backAll, h, h2, h3]
theorem e_lc {vs : List Nat} {it : Ei} {g : Tg} {t : Et} {e : Ev} {ow : Option Nat} (h1 : it δ = some ((xs, ow), δ1)) (h2 : unAll vs δ1 = some δ2) (h4 : lcGo vs g t e xs ow xs δ2 = some (ys, δ3)) (h3 : xs.length ≤ line) (h5 : backAll δ1 vs δ3 = δ4) : vLc vs it g t e δ = some (.new ys, δ4) := by
  simp only [vLc, h1, h2, Option.bind_some]
  rw [if_pos h3, h4, ← h5]
  rfl
section
variable {α : Type} {vs : List Nat} {g : Tg} {t : Et} {e : Ev} {src : List D} {ow : Option Nat} {enc : α → D} {l : List α}
theorem lt_y (h1 : g.put x δ = some δ1) (h2 : e δ1 = some (r, δ2)) (h4 : r.toD = d) (h3 : unAll vs δ2 = some δ) : IPL.lcTurn vs g tYes e x δ = some (some d, δ) := by
  simp only [IPL.lcTurn, h1, Option.bind_some, tYes, if_true, h2, h3, Option.map_some, h4]
theorem l_int {f : α → Int} (h : ∀ u ∈ l, IPL.lcTurn vs g tYes e (enc u) δ = some (some (.int (f u)), δ)) (hst : still δ src ow = true) : lcGo vs g tYes e src ow (l.map enc) δ = some ((l.map f).map .int, δ) := by
  rw [IPL.lcGo_map enc (fun u => .int (f u)) hst l h, List.map_map]
  rfl
theorem l_any {f : α → D} (h : ∀ u ∈ l, IPL.lcTurn vs g tYes e (enc u) δ = some (some (f u), δ)) (hst : still δ src ow = true) : lcGo vs g tYes e src ow (l.map enc) δ = some (l.map f, δ) :=
  IPL.lcGo_map enc f hst l h
theorem lt_t (h1 : g.put x δ = some δ1) (h5 : t δ1 = some (b, δ2)) (h6 : b = true) (h2 : e δ2 = some (r, δ3)) (h4 : r.toD = d) (h3 : unAll vs δ3 = some δ) : IPL.lcTurn vs g t e x δ = some (some d, δ) := by
  simp only [IPL.lcTurn, h1, Option.bind_some, h5, h6, if_true, h2, h3, Option.map_some, h4]
theorem lt_f (h1 : g.put x δ = some δ1) (h5 : t δ1 = some (b, δ2)) (h6 : b = false) (h3 : unAll vs δ2 = some δ) : IPL.lcTurn vs g t e x δ = some (none, δ) := by
  simp only [IPL.lcTurn, h1, Option.bind_some, h5, h6, h3, Option.map_some]
  rfl
/-- with a test, the items that pass as they are told -/
theorem l_flt {c : α → Bool} {f : α → D} (ht : ∀ u ∈ l, c u = true → IPL.lcTurn vs g t e (enc u) δ = some (some (f u), δ)) (hf : ∀ u ∈ l, c u = false → IPL.lcTurn vs g t e (enc u) δ = some (none, δ)) (hst : still δ src ow = true) :
    lcGo vs g t e src ow (l.map enc) δ = some ((l.filter c).map f, δ) := by
  rw [IPL.lcGo_pure enc (fun u => if c u = true then some (f u) else none) hst l fun u hu => by
    cases hc : c u with
    | true => exact ht u hu hc
    | false => exact hf u hu hc]
  congr 2
  clear ht hf
  induction l with
  | nil => rfl
  | cons u l ih =>
    rw [List.filterMap_cons, List.filter_cons, ih]
    cases c u <;> rfl
end
theorem stl_n : still δ xs none = true := rfl
/-! tests -/
theorem tr_i : truth (.int a) = some (a != 0) := rfl
theorem tr_b : truth (.bool b) = some b := rfl
theorem tr_n : truth .none = some false := rfl
theorem t_V {f : Eo} (h : f δ = some (p, δ1)) (h2 : rd δ1 p = some d) (h3 : truth d = some b) : tV f δ = some (b, δ1) := by simp only [tV, h, h2, h3, Option.bind_some, Option.map_some]
theorem t_B {f : Ev} (h : f δ = some (.dat (.bool b), δ1)) : tB f δ = some (b, δ1) := by simp only [tB, h, Option.bind_some]
theorem t_not {f : Et} (h : f δ = some (b, δ1)) : tNot f δ = some (!b, δ1) := by simp only [tNot, h, Option.map_some]
def andT (b : Bool) (g : Et) (δ : Env) : Option (Bool × Env) := if b = true then g δ else some (false, δ)
def orT (b : Bool) (g : Et) (δ : Env) : Option (Bool × Env) := if b = true then some (true, δ) else g δ
theorem andT_t {g : Et} {R : Option (Bool × Env)} (hb : b = true) (h : g δ = R) : andT b g δ = R := by rw [andT, if_pos hb, h]
theorem andT_f {g : Et} (hb : b = false) : andT b g δ = some (false, δ) := by rw [andT, hb]; rfl
theorem orT_t {g : Et} (hb : b = true) : orT b g δ = some (true, δ) := by rw [orT, if_pos hb]
theorem orT_f {g : Et} {R : Option (Bool × Env)} (hb : b = false) (h : g δ = R) : orT b g δ = R := by rw [orT, hb, ← h]; rfl
theorem t_and {f g : Et} (h1 : f δ = some (b, δ1)) (h2 : andT b g δ1 = some (b', δ2)) : tAnd f g δ = some (b', δ2) := by simp only [tAnd, h1, Option.bind_some]; exact h2
theorem t_or {f g : Et} (h1 : f δ = some (b, δ1)) (h2 : orT b g δ1 = some (b', δ2)) : tOr f g δ = some (b', δ2) := by simp only [tOr, h1, Option.bind_some]; exact h2
/-! statements -/
def seqK (o : Out) (g : Es) (δ : Env) : Option (Out × Env) := match o with
  | .nx => g δ
  | o => some (o, δ)
theorem q_nx {g : Es} {R : Option (Out × Env)} (h : g δ = R) : seqK .nx g δ = R := h
theorem q_rt {g : Es} : seqK (.rt r) g δ = some (.rt r, δ) := rfl
theorem q_bk {g : Es} : seqK .bk g δ = some (.bk, δ) := rfl
theorem q_ct {g : Es} : seqK .ct g δ = some (.ct, δ) := rfl
theorem s_seq {f g : Es} (h1 : f δ = some (o, δ1)) (h2 : seqK o g δ1 = some (o', δ2)) : sSeq f g δ = some (o', δ2) := by
  simp only [sSeq, h1, Option.bind_some]
  cases o <;> exact h2
theorem s_pass : sPass δ = some (.nx, δ) := rfl
theorem s_brk : sBreak δ = some (.bk, δ) := rfl
theorem s_cnt : sCont δ = some (.ct, δ) := rfl
theorem s_retN : sRetN δ = some (.rt (.dat .none), δ) := rfl
theorem s_set {f : Ev} (h : f δ = some (r, δ1)) (h1 : slotOf r = s) (h2 : setSlot δ1 i s = some δ2) : sSet i f δ = some (.nx, δ2) := by
  subst h1
  simp only [sSet, h, Option.bind_some, h2, Option.map_some]
theorem s_unp {is : List Nat} {f : Ev} (h : f δ = some (.dat (.tuple ds), δ1)) (h2 : setDs δ1 is ds = some δ2) : sUnp is f δ = some (.nx, δ2) := by
  simp only [sUnp, h, Option.bind_some, h2, Option.map_some]
theorem pe_n : pEvs [] δ = some ([], δ) := rfl
theorem pe_c {f : Ev} {fs : List Ev} {rs : List Res} (h : f δ = some (r, δ1)) (h2 : pEvs fs δ1 = some (rs, δ2)) : pEvs (f :: fs) δ = some (r :: rs, δ2) := by simp only [pEvs, h, h2, Option.bind_some, Option.map_some]
theorem sr_n : setRs δ [] [] = some δ := rfl
theorem sr_c {is : List Nat} {rs : List Res} (h1 : slotOf r = s) (h2 : setSlot δ i s = some δ1) (h3 : setRs δ1 is rs = some δ2) : setRs δ (i :: is) (r :: rs) = some δ2 := by
  subst h1
  simp only [setRs, h2, Option.bind_some, h3]
theorem s_par {is : List Nat} {fs : List Ev} {rs : List Res} (h : pEvs fs δ = some (rs, δ1)) (h2 : setRs δ1 is rs = some δ2) : sPar is fs δ = some (.nx, δ2) := by simp only [sPar, h, Option.bind_some, h2, Option.map_some]
theorem s_ex {f : Ev} (h : f δ = some (r, δ1)) : sEx f δ = some (.nx, δ1) := by simp only [sEx, h, Option.map_some]
theorem s_ret {f : Ev} (h : f δ = some (r, δ1)) : sRet f δ = some (.rt r, δ1) := by simp only [sRet, h, Option.map_some]
def ifK (b : Bool) (f g : Es) (δ : Env) : Option (Out × Env) := if b = true then f δ else g δ
theorem if_t {f g : Es} {R : Option (Out × Env)} (hb : b = true) (h : f δ = R) : ifK b f g δ = R := by rw [ifK, if_pos hb, h]
theorem if_f {f g : Es} {R : Option (Out × Env)} (hb : b = false) (h : g δ = R) : ifK b f g δ = R := by rw [ifK, hb, ← h]; rfl
theorem s_if {t : Et} {f g : Es} (h1 : t δ = some (b, δ1)) (h2 : ifK b f g δ1 = some (o, δ2)) : sIf t f g δ = some (o, δ2) := by simp only [sIf, h1, Option.bind_some]; exact h2
theorem s_appO {f : Ev} (h0 : ownAt δ i = true) (h : f δ = some (r, δ1)) (h2 : r.toD = d) (h3 : δ1[i]? = some (.own xs)) (h4 : xs.length < line) (h5 : δ1.set i (.own (xs ++ [d])) = δ2) : sApp i f δ = some (.nx, δ2) := by
  simp only [sApp, h0, if_true, h, Option.bind_some, withOwn, h3, if_pos h4, Option.map_some, h2, h5]
theorem s_appI {f : Ev} (h0 : ownAt δ i = true) (h : f δ = some (.dat (.int v), δ1)) (h3 : δ1[i]? = some (.own (us.map .int))) (h4 : us.length < line) (h5 : δ1.set i (.own ((us ++ [v]).map .int)) = δ2) : sApp i f δ = some (.nx, δ2) :=
  s_appO h0 h rfl h3 (by simpa using h4) (by rw [← h5, List.map_append]; rfl)
theorem s_augI {op : Int → Int → Int} {f : Eo} (h0 : δ[i]? = some (.dat (.int a))) (h : f δ = some (.val (.int c), δ1)) (h2 : setSlot δ1 i (.dat (.int (op a c))) = some δ2) : sAug i op f δ = some (.nx, δ2) := by
  simp only [sAug, h0, h, Option.bind_some, h2, Option.map_some]
theorem s_for {it : Ei} {g : Tg} {bb : Es} (h : it δ = some ((xs, none), δ1)) (h2 : forGo g bb xs δ1 = some (o, δ2)) : sFor it g bb δ = some (o, δ2) := by
  simp only [sFor, h, Option.bind_some, if_true]
  exact h2
theorem s_while {t : Et} {bb : Es} (h : whileGo t bb turns δ = some (o, δ1)) : sWhile t bb δ = some (o, δ1) := h
theorem s_setIx {ix f : Eo} {m : Nat} (h : f δ = some (.val d, δ1)) (h0 : ownAt δ1 i = true) (h1 : ix δ1 = some (.val (.int (m : Int)), δ2)) (h2 : δ2[i]? = some (.own xs)) (h3 : m < xs.length) (h4 : δ2.set i (.own (xs.set m d)) = δ3) : sSetIx i ix f δ = some (.nx, δ3) := by
  simp only [sSetIx, h, Option.bind_some, h0, if_true, h1, withOwn, h2, ixNn h3, Option.map_some, h4]
def outR : Out → Option Res
  | .nx => some (.dat .none)
  | .rt r => some r
  | _ => none
theorem or_n : outR .nx = some (.dat .none) := rfl
theorem or_r : outR (.rt r) = some r := rfl
theorem fn_v {F : Fn} {δ0 : Env} (hb : F.byRef = false) (hl : ds.length = F.nps) (he : ds.map .dat ++ List.replicate (F.names - F.nps) .un = δ0) (h : F.body δ0 = some (o, δ)) (ho : outR o = some r) : F.run none ds = some (r, none) := by
  subst he
  simp only [Fn.run, hb, hl, if_true, Option.bind_some, h]
  cases o <;> simp only [outR, reduceCtorEq, Option.some.injEq] at ho <;> subst ho <;> rfl
theorem fn_r {F : Fn} {δ0 : Env} (hb : F.byRef = true) (hl : ds.length + 1 = F.nps) (he : .prm xs :: (ds.map .dat ++ List.replicate (F.names - F.nps) .un) = δ0) (h : F.body δ0 = some (o, δ)) (ho : outR o = some r) (h0 : δ[0]? = some (.prm ys)) : F.run (some xs) ds = some (r, some ys) := by
  subst he
  simp only [Fn.run, hb, hl, if_true, Option.bind_some, h]
  cases o <;> simp only [outR, reduceCtorEq, Option.some.injEq] at ho <;> subst ho <;> simp only [Option.bind_some, h0]
/-! booleans -/
theorem bo_nt (h : b = false) : (!b) = true := by rw [h]; rfl
theorem bo_nf (h : b = true) : (!b) = false := by rw [h]; rfl
/-! loops -/
section
variable {σ α : Type}
/-- a loop that goes on with a state; g sets, the body is told by its own turn -/
theorem f_fold {g : Tg} {bb : Es} {enc : α → D} (E : σ → Env → Prop) (f : σ → α → σ) : ∀ (l : List α) (s0 : σ) (δ0 : Env), E s0 δ0 →
    (∀ s u δ, u ∈ l → E s δ → ∃ δ1 δ2 o, g.put (enc u) δ = some δ1 ∧ bb δ1 = some (o, δ2) ∧ (o = .nx ∨ o = .ct) ∧ E (f s u) δ2) →
    ∃ δ', forGo g bb (l.map enc) δ0 = some (.nx, δ') ∧ E (l.foldl f s0) δ'
  | [], s0, δ0, h0, _ => ⟨δ0, rfl, h0⟩
  | u :: l, s0, δ0, h0, h => by
    obtain ⟨δ1, δ2, o, e1, e2, e3, e4⟩ := h s0 u δ0 List.mem_cons_self h0
    obtain ⟨δ', a1, a2⟩ := f_fold E f l (f s0 u) δ2 e4 fun s v δ hv hs => h s v δ (List.mem_cons_of_mem _ hv) hs
    refine ⟨δ', ?_, a2⟩
    rw [List.map_cons, forGo, e1]
    simp only [Option.bind_some, e2]
    rcases e3 with rfl | rfl <;> exact a1
end
end EV
namespace EV
open IP
open PySem (PyData)
section
variable {δ : Env} {s : Slot} {i : Nat} {d : D} {ds : List D} {a c : Int}
theorem or_of {o : Out} {r : Res} (h : outR o = some r) : outR o = some r := h
theorem or_bt {b : Bool} (h : b = true) : outR (.rt (.dat (.bool b))) = some (.dat (.bool true)) := by rw [h]; rfl
theorem prop_of {p : Prop} (h : p) : p := h
theorem get_of (h : δ[i]? = some s) : δ[i]? = some s := h
theorem any_of {os : List Opd} (h : anyAt os = false) : anyAt os = false := h
theorem nol_of (h : noList d = true) : noList d = true := h
theorem line_of {n : Nat} (h : n ≤ 16000000) : n ≤ line := h
theorem line_lt {n : Nat} (h : n < 16000000) : n < line := h
theorem bne_t (h : a ≠ c) : (a != c) = true := by simpa using h
theorem bne_f (h : a = c) : (a != c) = false := by simpa using h
theorem sz_nil : ([] : List D).length ≤ line := by decide
theorem sz_le (h : ds.length ≤ 16000000) : ds.length ≤ line := h
theorem noT {us : List Int} : noList (iT us) = true := by
  simp only [noList]
  induction us with
  | nil => rfl
  | cons u us ih => simpa [noListAll] using ih
theorem noI : noList (.int a) = true := rfl
theorem noB {b : Bool} : noList (.bool b) = true := rfl
theorem noN : noList .none = true := rfl
end
end EV
namespace EV
open IP
open PySem (PyData)
section
variable {δ δ1 δ2 : Env} {s t : Slot} {o : Out}
/-- a slot that a name may be set in -/
def Free (s : Slot) : Prop := s = .un ∨ ∃ d, s = .dat d
theorem fr_u : Free .un := .inl rfl
theorem fr_d {d : D} : Free (.dat d) := .inr ⟨d, rfl⟩
theorem st_0f (h : Free t) : setSlot (t :: δ) 0 s = some (s :: δ) := by rcases h with rfl | ⟨d, rfl⟩ <;> rfl
def Step (g : Tg) (bb : Es) (x : D) (δ : Env) (P : Env → Prop) : Prop := ∃ δ1 δ2 o, g.put x δ = some δ1 ∧ bb δ1 = some (o, δ2) ∧ (o = .nx ∨ o = .ct) ∧ P δ2
theorem st_nx {g : Tg} {bb : Es} {x : D} {P : Env → Prop} (h1 : g.put x δ = some δ1) (h2 : bb δ1 = some (.nx, δ2)) (h4 : P δ2) : Step g bb x δ P := ⟨δ1, δ2, .nx, h1, h2, .inl rfl, h4⟩
theorem st_ct {g : Tg} {bb : Es} {x : D} {P : Env → Prop} (h1 : g.put x δ = some δ1) (h2 : bb δ1 = some (.ct, δ2)) (h4 : P δ2) : Step g bb x δ P := ⟨δ1, δ2, .ct, h1, h2, .inr rfl, h4⟩
/-- a loop whose turns carry a state, kept within P -/
theorem f_loop {σ α : Type} {g : Tg} {bb : Es} {enc : α → D} (E : σ → Slot → Env) (f : σ → α → σ) (P : σ → Prop) : ∀ (l : List α) (s0 : σ) (t0 : Slot), Free t0 → P s0 →
    (∀ s u t, u ∈ l → Free t → P s → P (f s u) ∧ Step g bb (enc u) (E s t) fun δ => ∃ t', Free t' ∧ δ = E (f s u) t') →
    ∃ t', Free t' ∧ P (l.foldl f s0) ∧ forGo g bb (l.map enc) (E s0 t0) = some (.nx, E (l.foldl f s0) t')
  | [], s0, t0, ht, h0, _ => ⟨t0, ht, h0, rfl⟩
  | u :: l, s0, t0, ht, h0, h => by
    obtain ⟨hp, δ1, δ2, o, e1, e2, e3, t1, ht1, rfl⟩ := h s0 u t0 List.mem_cons_self ht h0
    obtain ⟨t', a1, a2, a3⟩ := f_loop E f P l (f s0 u) t1 ht1 hp fun s v t hv ht hs => h s v t (List.mem_cons_of_mem _ hv) ht hs
    refine ⟨t', a1, a2, ?_⟩
    rw [List.map_cons, forGo, e1]
    simp only [Option.bind_some, e2]
    rcases e3 with rfl | rfl <;> exact a3
/-- the turns of a while, as many as m, ahead of one more look -/
theorem w_loop {σ : Type} {t : Et} {bb : Es} (E : σ → Env) (f : σ → σ) : ∀ (m fuel : Nat) (s0 : σ), m < fuel →
    (∀ k, k < m → ∃ δ1, t (E (Nat.repeat f k s0)) = some (true, δ1) ∧ bb δ1 = some (.nx, E (Nat.repeat f (k + 1) s0))) →
    (∃ δ1, t (E (Nat.repeat f m s0)) = some (false, δ1) ∧ δ1 = E (Nat.repeat f m s0)) → whileGo t bb fuel (E s0) = some (.nx, E (Nat.repeat f m s0))
  | 0, 0, _, h, _, _ => by omega
  | 0, fuel + 1, s0, _, _, ⟨δ1, h1, h2⟩ => by
    subst h2
    rw [whileGo]
    simp only [Nat.repeat] at h1 ⊢
    rw [h1]
    rfl
  | m + 1, 0, s0, h, _, _ => by omega
  | m + 1, fuel + 1, s0, h, hs, he => by
    have hr : ∀ k, Nat.repeat f k (f s0) = Nat.repeat f (k + 1) s0 := by
      intro k
      induction k with
      | zero => rfl
      | succ k ih => rw [Nat.repeat, ih]; rfl
    obtain ⟨δ1, e1, e2⟩ := hs 0 (by omega)
    have ih := w_loop E f m fuel (f s0) (by omega) (fun k hk => by rw [hr, hr]; exact hs (k + 1) (by omega)) (by rw [hr]; exact he)
    rw [whileGo]
    simp only [Nat.repeat] at e1 e2
    rw [e1]
    simp only [Option.bind_some, if_true, e2]
    rw [ih, hr]
/-! literal lists -/
theorem ix2 {a b k : Int} (h : 0 ≤ k ∧ k < 2) : ∃ v, bIx (.list [.int a, .int b]) (.int k) = some (.dat (.int v)) ∧ (v = a ∨ v = b) := by
  have : k = 0 ∨ k = 1 := by omega
  rcases this with rfl | rfl
  · exact ⟨a, rfl, .inl rfl⟩
  · exact ⟨b, rfl, .inr rfl⟩
theorem ix3 {a b c k : Int} (h : 0 ≤ k ∧ k < 3) : ∃ v, bIx (.list [.int a, .int b, .int c]) (.int k) = some (.dat (.int v)) ∧ (v = a ∨ v = b ∨ v = c) := by
  have : k = 0 ∨ k = 1 ∨ k = 2 := by omega
  rcases this with rfl | rfl | rfl
  · exact ⟨a, rfl, .inl rfl⟩
  · exact ⟨b, rfl, .inr (.inl rfl)⟩
  · exact ⟨c, rfl, .inr (.inr rfl)⟩
theorem p_pow {a b v : Int} (h : 0 ≤ b ∧ b ≤ 1000000 ∧ a.natAbs < 2 ^ 64) (hv : a ^ b.toNat = v) : bPow (.int a) (.int b) = some (.dat (.int v)) := by rw [bPow, if_pos h, hv]
theorem p_pow18 : bPow (.int 10) (.int 18) = some (.dat (.int 1000000000000000000)) := p_pow ⟨by decide, by decide, by decide⟩ (by decide +kernel)
theorem p_pow17 : bPow (.int 10) (.int 17) = some (.dat (.int 100000000000000000)) := p_pow ⟨by decide, by decide, by decide⟩ (by decide +kernel)
theorem p_pow12 : bPow (.int 10) (.int 12) = some (.dat (.int 1000000000000)) := p_pow ⟨by decide, by decide, by decide⟩ (by decide +kernel)
theorem p_pow15 : bPow (.int 10) (.int 15) = some (.dat (.int 1000000000000000)) := p_pow ⟨by decide, by decide, by decide⟩ (by decide +kernel)
theorem p_pow60 : bPow (.int 10) (.int 60) = some (.dat (.int 1000000000000000000000000000000000000000000000000000000000000)) := p_pow ⟨by decide, by decide, by decide⟩ (by decide +kernel)
end
end EV
namespace EV
open IP
open PySem (PyData)
section
variable {us vs : List Int} {v a : Int} {ds : List D}
theorem cut_to1 : cutR (iT us) none (some 1) = some (.dat (iT (us.take 1))) := cut_toT (a := 1)
theorem cut_to1L : cutR (iL us) none (some 1) = some (.new ((us.take 1).map .int)) := cut_toL (a := 1)
theorem cut_fr1 : cutR (iT us) (some 1) none = some (.dat (iT (us.drop 1))) := cut_frT (a := 1)
theorem cut_fr1L : cutR (iL us) (some 1) none = some (.new ((us.drop 1).map .int)) := cut_frL (a := 1)
theorem cut_toI (h : 0 ≤ v) : cutR (iT us) none (some v) = some (.dat (iT (us.take v.toNat))) := by
  obtain ⟨a, rfl⟩ : ∃ a : Nat, (a : Int) = v := ⟨v.toNat, by omega⟩
  exact cut_toT
theorem cut_frI (h : 0 ≤ v) : cutR (iT us) (some v) none = some (.dat (iT (us.drop v.toNat))) := by
  obtain ⟨a, rfl⟩ : ∃ a : Nat, (a : Int) = v := ⟨v.toNat, by omega⟩
  exact cut_frT
theorem is_ii : uIs [.int] (.int a) = some (.dat (.bool true)) := rfl
theorem is_bi : uIs [.bool] (.int a) = some (.dat (.bool false)) := rfl
theorem is_tt : uIs [.tuple] (.tuple ds) = some (.dat (.bool true)) := rfl
theorem is_tl : uIs [.tuple] (.list ds) = some (.dat (.bool false)) := rfl
theorem is_lt : uIs [.list] (.tuple ds) = some (.dat (.bool false)) := rfl
theorem is_ll : uIs [.list] (.list ds) = some (.dat (.bool true)) := rfl
theorem uisn : uIsN .none = some (.dat (.bool true)) := rfl
theorem uisn_i : uIsN (.int a) = some (.dat (.bool false)) := rfl
theorem uisn_t : uIsN (.tuple ds) = some (.dat (.bool false)) := rfl
theorem unn : uNotN .none = some (.dat (.bool false)) := rfl
theorem unn_i : uNotN (.int a) = some (.dat (.bool true)) := rfl
theorem unn_t : uNotN (.tuple ds) = some (.dat (.bool true)) := rfl
/-- an index that is told as an integer -/
theorem p_ix0 (h : 0 < us.length) : bIx (iT us) (.int 0) = some (.dat (.int (us.getD 0 0))) := p_ixT (m := 0) h
end
end EV
namespace EV
open IP
theorem b_len2 {x y : D} : biLen [.tuple [x, y]] = some (.dat (.int 2)) := rfl
theorem b_len3 {x y z : D} : biLen [.tuple [x, y, z]] = some (.dat (.int 3)) := rfl
end EV
namespace EV
open IP
open PySem (PyData)
section
variable {us vs : List Int} {v a k b : Int} {ds : List D} {δ δ1 δ2 δ3 : Env} {i n m : Nat}
abbrev encE (us : List Int) (k : Nat) : D := .tuple [.int (k : Int), .int (us.getD k 0)]
theorem enumD_ints (us : List Int) : enumD 0 (us.map .int) = (List.range us.length).map (encE us) := by
  rw [IPL.enumD_eq]
  simp only [List.length_map]
  apply List.map_congr_left
  intro k hk
  have := List.mem_range.mp hk
  simp [encE, List.getD, this]
theorem i_enT {f : Eo} (h : f δ = some (.val (iT us), δ1)) : iEnum f δ = some (((List.range us.length).map (encE us), none), δ1) := by simp [iEnum, h, enumD_ints]
theorem i_enL {f : Eo} (h : f δ = some (.val (iL us), δ1)) : iEnum f δ = some (((List.range us.length).map (encE us), none), δ1) := by simp [iEnum, h, enumD_ints]
theorem downD_rev (n : Nat) : downD ((n : Int) - 1) n = (List.range n).reverse.map encN := by
  unfold downD
  apply List.ext_getElem
  · simp
  · intro i h1 h2
    simp at h1 h2
    simp only [List.getElem_map, List.getElem_range, List.getElem_reverse, List.length_range, encN]
    congr 1
    omega
theorem iRevR1_s (f : Eo) (δ : Env) : iRevR1 f δ = (f δ).bind fun p => match p.1 with
    | .val (.int j) => if small60 j = true then some ((downD ((j.toNat : Int) - 1) j.toNat, none), p.2) else none
    | _ => none := by
  unfold iRevR1 small60
  congr 1
  funext p
  obtain ⟨o, e⟩ := p
  cases o with
  | val d => cases d <;> simp only [decide_eq_true_eq]
  | «at» i => rfl
theorem iRevR1_at {f : Eo} {j : Int} (h : f δ = some (.val (.int j), δ1)) (h2 : small60 j = true) : iRevR1 f δ = some ((downD ((j.toNat : Int) - 1) j.toNat, none), δ1) := by
  rw [iRevR1_s, h]
  simp only [Option.bind_some]
  rw [if_pos h2]
theorem i_rr1 {f : Eo} (h : f δ = some (.val (.int (n : Int)), δ1)) (h2 : n ≤ 1000000000) : iRevR1 f δ = some (((List.range n).reverse.map encN, none), δ1) := by
  have e := iRevR1_at h (small60_of (show -1000000000 ≤ (n : Int) ∧ (n : Int) ≤ 1000000000 from ⟨by omega, by omega⟩))
  rw [Int.toNat_natCast, downD_rev] at e
  exact e
theorem s_setIxI {ix f : Eo} (h : f δ = some (.val (.int v), δ1)) (h0 : ownAt δ1 i = true) (h1 : ix δ1 = some (.val (.int k), δ2)) (h2 : δ2[i]? = some (.own (us.map .int))) (h3 : 0 ≤ k ∧ k < us.length) (h4 : δ2.set i (.own ((us.set k.toNat v).map .int)) = δ3) : sSetIx i ix f δ = some (.nx, δ3) := by
  obtain ⟨m, rfl⟩ : ∃ m : Nat, (m : Int) = k := ⟨k.toNat, by omega⟩
  exact s_setIx h h0 h1 h2 (by simp; omega) (by rw [← h4, Int.toNat_natCast, List.map_set])
theorem s_setIxN {ix f : Eo} (h : f δ = some (.val (.int v), δ1)) (h0 : ownAt δ1 i = true) (h1 : ix δ1 = some (.val (.int (m : Int)), δ2)) (h2 : δ2[i]? = some (.own (us.map .int))) (h3 : m < us.length) (h4 : δ2.set i (.own ((us.set m v).map .int)) = δ3) : sSetIx i ix f δ = some (.nx, δ3) :=
  s_setIx h h0 h1 h2 (by simpa using h3) (by rw [← h4, List.map_set])
theorem s_augIxN {ix f : Eo} {op : Int → Int → Int} (h0 : ownAt δ i = true) (h1 : ix δ = some (.val (.int (m : Int)), δ1)) (h2 : δ1[i]? = some (.own (us.map .int))) (h3 : f δ1 = some (.val (.int b), δ2)) (h4 : δ2[i]? = some (.own (us.map .int))) (hk : m < us.length) (h5 : δ2.set i (.own ((us.set m (op (us.getD m 0) b)).map .int)) = δ3) : sAugIx i ix op f δ = some (.nx, δ3) := by
  have hg : ownGet δ1 i (m : Int) = some (.int (us.getD m 0)) := by
    simp only [ownGet, h2, atD, List.length_map, ixNn hk, Option.bind_some]
    rw [List.getElem?_map, List.getElem?_eq_getElem hk]
    simp [List.getD, hk]
  simp only [sAugIx, h0, if_true, h1, Option.bind_some, hg, h3, withOwn, h4, List.length_map, ixNn hk, Option.map_some]
  rw [← h5, List.map_set]
theorem s_pop (h : δ[i]? = some (.own (us.map .int))) (h2 : us ≠ []) (h3 : δ.set i (.own (us.dropLast.map .int)) = δ1) : sPop i δ = some (.nx, δ1) := by
  have : (us.map PyData.int).isEmpty = false := by cases us <;> simp_all
  simp only [sPop, withOwn, h, this, Option.map_some, ← h3, List.map_dropLast]
  rfl
theorem flat_rep (m : Nat) : (List.replicate m [PyData.int a]).flatten = (List.replicate m a).map PyData.int := by
  induction m with
  | zero => rfl
  | succ m ih => rw [List.replicate_succ, List.flatten_cons, ih]; rfl
theorem small63 {k : Int} (h : k ≤ 10000000) (h2 : -10000000 ≤ k) : -(2 ^ 63) ≤ k ∧ k < 2 ^ 63 := by omega
theorem small62 {k : Int} (h : k ≤ 10000000) (h2 : -10000000 ≤ k) : -(2 ^ 62) ≤ k ∧ k ≤ 2 ^ 62 := by omega
theorem p_repL (h : k ≤ 10000000) (h2 : -10000000 ≤ k) : bMul (.list [.int a]) (.int k) = some (.new ((List.replicate k.toNat a).map .int)) := by
  have hl : ([PyData.int a] : List D).length * k.toNat ≤ line := by
    show 1 * k.toNat ≤ 16000000
    omega
  rw [bMul, if_pos ⟨(small63 h h2).1, (small63 h h2).2, hl⟩, flat_rep]
theorem p_repT (h : k ≤ 10000000) (h2 : -10000000 ≤ k) : bMul (.tuple [.int a]) (.int k) = some (.dat (iT (List.replicate k.toNat a))) := by
  have hl : ([PyData.int a] : List D).length * k.toNat ≤ line := by
    show 1 * k.toNat ≤ 16000000
    omega
  rw [bMul, if_pos ⟨(small62 h h2).1, (small62 h h2).2, hl⟩, flat_rep]
theorem tr_T : truth (iT us) = some (decide (us ≠ [])) := by cases us <;> simp [truth]
theorem tr_L : truth (iL us) = some (decide (us ≠ [])) := by cases us <;> simp [truth]
theorem cut_last1 : cutR (iT us) (some (-1)) none = some (.dat (iT (us.drop (us.length - 1)))) := by
  simp only [cutR, cutD, Option.some.injEq, Res.dat.injEq, PyData.tuple.injEq]
  rw [show clampIx (us.map PyData.int).length (us.map PyData.int).length none = (us.map PyData.int).length from rfl, ← List.map_drop, List.take_of_length_le (by simp)]
  congr 2
  simp [clampIx]
  omega
theorem cut_last1L : cutR (iL us) (some (-1)) none = some (.new ((us.drop (us.length - 1)).map .int)) := by
  have := cut_last1 (us := us)
  simp only [cutR, Option.some.injEq, Res.dat.injEq, PyData.tuple.injEq] at this
  simp only [cutR, this]
theorem p_ixLastT (h : us ≠ []) : bIx (iT us) (.int (-1)) = some (.dat (.int (us.getD (us.length - 1) 0))) := by
  have hl : 0 < us.length := List.length_pos_iff.mpr h
  have h1 : IP.ixN us.length (-1) = some (us.length - 1) := by
    unfold IP.ixN
    rw [if_neg (by omega), if_pos (by omega)]
    congr 1
    omega
  simp only [bIx, atD, List.length_map, h1, Option.bind_some, List.getElem?_map]
  rw [List.getElem?_eq_getElem (by omega)]
  simp [List.getD, show us.length - 1 < us.length by omega]
end
end EV
namespace EV
open IP
open PySem (PyData)
section
variable {us : List Int} {δ : Env} {i n : Nat}
theorem stl_o (h : δ[i]? = some (.own (us.map .int))) : still δ (us.map .int) (some i) = true := by
  simp only [still, h, slotD, IPL.same_ints]
theorem l_intR {vs : List Nat} {g : Tg} {e : Ev} {src : List D} {ow : Option Nat} {enc : Nat → D} {f : Nat → Int} (h : ∀ u, u < n → IPL.lcTurn vs g tYes e (enc u) δ = some (some (.int (f u)), δ)) (hst : still δ src ow = true) : lcGo vs g tYes e src ow ((List.range n).map enc) δ = some (((List.range n).map f).map .int, δ) :=
  l_int (fun u hu => h u (List.mem_range.mp hu)) hst
theorem f_inv {α : Type} {g : Tg} {bb : Es} {enc : α → D} (Q : Nat → Env → Prop) : ∀ (l : List α) (k : Nat) (δ0 : Env), Q k δ0 →
    (∀ i u δ, l[i]? = some u → Q (k + i) δ → Step g bb (enc u) δ (Q (k + i + 1))) → ∃ δ', forGo g bb (l.map enc) δ0 = some (.nx, δ') ∧ Q (k + l.length) δ'
  | [], k, δ0, h0, _ => ⟨δ0, rfl, h0⟩
  | u :: l, k, δ0, h0, h => by
    obtain ⟨δ1, δ2, o, e1, e2, e3, e4⟩ := h 0 u δ0 rfl h0
    obtain ⟨δ', a1, a2⟩ := f_inv Q l (k + 1) δ2 e4 fun i v δ hv hq => by
      have := h (i + 1) v δ (by simpa using hv) (by rw [show k + (i + 1) = k + 1 + i by omega]; exact hq)
      rw [show k + (i + 1) + 1 = k + 1 + i + 1 by omega] at this
      exact this
    refine ⟨δ', ?_, by rw [List.length_cons, show k + (l.length + 1) = k + 1 + l.length by omega]; exact a2⟩
    rw [List.map_cons, forGo, e1]
    simp only [Option.bind_some, e2]
    rcases e3 with rfl | rfl <;> exact a1
/-- a loop over 0 .. n - 1 -/
theorem f_range {g : Tg} {bb : Es} {enc : Nat → D} (Q : Nat → Env → Prop) (n : Nat) (δ0 : Env) (h0 : Q 0 δ0) (h : ∀ k δ, k < n → Q k δ → Step g bb (enc k) δ (Q (k + 1))) :
    ∃ δ', forGo g bb ((List.range n).map enc) δ0 = some (.nx, δ') ∧ Q n δ' := by
  obtain ⟨δ', a, b⟩ := f_inv (enc := enc) (g := g) (bb := bb) Q (List.range n) 0 δ0 h0 fun i u δ hi hq => by
    have hl : i < n := by
      rcases Nat.lt_or_ge i n with h | h
      · exact h
      · rw [List.getElem?_eq_none (by simpa using h)] at hi
        cases hi
    rw [List.getElem?_range hl] at hi
    cases hi
    rw [Nat.zero_add] at hq ⊢
    exact h _ δ hl hq
  rw [List.length_range, Nat.zero_add] at b
  exact ⟨δ', a, b⟩
end
end EV
namespace EV
open IP
theorem p_ixDT {ds : List D} {k : Nat} (h : k < ds.length) : bIx (.tuple ds) (.int (k : Int)) = some (.dat (ds.getD k .none)) := by
  simp only [bIx, atD, ixNn h, Option.bind_some]
  rw [List.getElem?_eq_getElem h]
  simp [List.getD, h]
theorem p_ixDL {ds : List D} {k : Nat} (h : k < ds.length) : bIx (.list ds) (.int (k : Int)) = some (.dat (ds.getD k .none)) := by
  simp only [bIx, atD, ixNn h, Option.bind_some]
  rw [List.getElem?_eq_getElem h]
  simp [List.getD, h]
theorem p_ix20 {x y : D} : bIx (.tuple [x, y]) (.int 0) = some (.dat x) := rfl
theorem p_ix21 {x y : D} : bIx (.tuple [x, y]) (.int 1) = some (.dat y) := rfl
/-- what _law_alike takes for like itself -/
def okA : Nat → D → Bool
  | _, .int _ => true
  | _, .none => true
  | _, .bool _ => true
  | k + 1, .tuple ds => decide (ds.length ≤ 1000000) && ds.all (okA k)
  | k + 1, .list ds => decide (ds.length ≤ 1000000) && ds.all (okA k)
  | _, _ => false
theorem okA_row {k : Nat} {us : List Int} (h : us.length ≤ 1000000) : okA (k + 1) (iT us) = true := by
  simp only [okA, List.length_map, decide_eq_true h, Bool.true_and, List.all_map, List.all_eq_true]
  intro u _
  cases k <;> rfl
theorem okA_rowL {k : Nat} {us : List Int} (h : us.length ≤ 1000000) : okA (k + 1) (iL us) = true := by
  simp only [okA, List.length_map, decide_eq_true h, Bool.true_and, List.all_map, List.all_eq_true]
  intro u _
  cases k <;> rfl
end EV
namespace EV
open IP
open PySem (PyData)
theorem p_shrN {e k : Nat} : bShr (.int (e : Int)) (.int (k : Int)) = some (.dat (.int ((e / 2 ^ k : Nat) : Int))) := by
  rw [bShr, if_pos (by omega), Int.toNat_natCast]
  congr 3
theorem p_and1 {m : Nat} : bAnd (.int (m : Int)) (.int 1) = some (.dat (.int ((m % 2 : Nat) : Int))) := by
  rw [bAnd, if_pos ⟨by omega, by omega⟩, Int.toNat_natCast, show (1 : Int).toNat = 1 from rfl, Nat.and_one_is_mod]
/-- bit_length -/
def bl (e : Nat) : Nat := if e = 0 then 0 else e.log2 + 1
theorem bl_lt (e : Nat) : e < 2 ^ bl e := by
  unfold bl
  split
  · omega
  · exact Nat.lt_log2_self
theorem bl_le {e n : Nat} (h : e < 2 ^ n) : bl e ≤ n := by
  unfold bl
  split
  · omega
  · rename_i h0
    have := (Nat.log2_lt h0).mpr h
    omega
theorem p_bitsN {e : Nat} : uBits (.int (e : Int)) = some (.dat (.int ((bl e : Nat) : Int))) := by
  simp only [uBits, bl, Int.natAbs_natCast, Int.natCast_eq_zero]
end EV
namespace EV
open IP
section
variable {us : List Int} {k : Nat} {v : Int}
theorem ixNneg {n k : Nat} (h : k < n) : IP.ixN n (-1 - (k : Int)) = some (n - 1 - k) := by
  unfold IP.ixN
  rw [if_neg (by omega), if_pos (by omega)]
  congr 1
  omega
theorem p_ixNegT (h : k < us.length) : bIx (iT us) (.int (-1 - (k : Int))) = some (.dat (.int (us.getD (us.length - 1 - k) 0))) := by
  simp only [bIx, atD, List.length_map, ixNneg h, Option.bind_some, List.getElem?_map]
  rw [List.getElem?_eq_getElem (by omega)]
  simp [List.getD, show us.length - 1 - k < us.length by omega]
theorem p_ixNegL (h : k < us.length) : bIx (iL us) (.int (-1 - (k : Int))) = some (.dat (.int (us.getD (us.length - 1 - k) 0))) := by
  simp only [bIx, atD, List.length_map, ixNneg h, Option.bind_some, List.getElem?_map]
  rw [List.getElem?_eq_getElem (by omega)]
  simp [List.getD, show us.length - 1 - k < us.length by omega]
theorem p_addsL (h : 1 + us.length ≤ 16000000) : bAdd (.list [.int v]) (iL us) = some (.new ((v :: us).map .int)) := by
  have := p_addL (us := [v]) (vs := us) (by simpa using h)
  simpa using this
theorem p_tupRev : uTupRev (iL us) = some (.dat (iT us.reverse)) := by simp only [uTupRev, ← List.map_reverse]
end
end EV
namespace EV
open IP
theorem p_ix30 {x y z : D} : bIx (.tuple [x, y, z]) (.int 0) = some (.dat x) := rfl
theorem p_ix31 {x y z : D} : bIx (.tuple [x, y, z]) (.int 1) = some (.dat y) := rfl
theorem p_ix32 {x y z : D} : bIx (.tuple [x, y, z]) (.int 2) = some (.dat z) := rfl

end EV
end
section
set_option linter.all false
/-! Ev2: more rules. -/
namespace EV
open IP
open PySem (PyData)
section
variable {us : List Int} {δ δ1 δ2 δ3 δ4 : Env} {xs ys : List D}
theorem b_sum2L : biSum2 [iL us] = some (.dat (.int us.sum)) := by simp only [biSum2, IPL.intsOf_map, Option.map_some]
theorem b_sum2T : biSum2 [iT us] = some (.dat (.int us.sum)) := by simp only [biSum2, IPL.intsOf_map, Option.map_some]
theorem e_lc2 {vs vs1 : List Nat} {it it1 : Ei} {g g1 : Tg} {t t1 : Et} {e : Ev} {ow : Option Nat} (h1 : it δ = some ((xs, ow), δ1)) (h2 : unAll vs δ1 = some δ2) (h4 : lc2Go vs vs1 g t it1 g1 t1 e xs ow xs δ2 = some (ys, δ3)) (h3 : ys.length ≤ line) (h5 : backAll δ1 vs δ3 = δ4) : vLc2 vs vs1 it g t it1 g1 t1 e δ = some (.new ys, δ4) := by
  simp only [vLc2, h1, h2, Option.bind_some]
  rw [h4, ← h5]
  simp only [Option.bind_some, if_pos h3]
/-- one turn of the outer for; without effect -/
def lc2Turn (vs vs1 : List Nat) (g : Tg) (t : Et) (it1 : Ei) (g1 : Tg) (t1 : Et) (e : Ev) (x : D) (δ : Env) (r : List D) : Prop :=
  ∃ δ1 δ2 b, g.put x δ = some δ1 ∧ t δ1 = some (b, δ2) ∧ ((b = true ∧ ∃ ys ow δ3 δ4 δ5, it1 δ2 = some ((ys, ow), δ3) ∧ unAll vs1 δ3 = some δ4 ∧ lcGo vs1 g1 t1 e ys ow ys δ4 = some (r, δ5) ∧ unAll vs δ5 = some δ) ∨ (b = false ∧ r = [] ∧ unAll vs δ2 = some δ))
theorem l2_go {α : Type} {vs vs1 : List Nat} {g g1 : Tg} {t t1 : Et} {it1 : Ei} {e : Ev} {src : List D} {ow : Option Nat} {enc : α → D} {f : α → List D} (hst : still δ src ow = true) : ∀ (l : List α), (∀ u ∈ l, lc2Turn vs vs1 g t it1 g1 t1 e (enc u) δ (f u)) →
    lc2Go vs vs1 g t it1 g1 t1 e src ow (l.map enc) δ = some ((l.map f).flatten, δ)
  | [], _ => by
    rw [List.map_nil, lc2Go, if_pos hst]
    rfl
  | u :: l, h => by
    have ih := l2_go (vs := vs) (vs1 := vs1) (g := g) (g1 := g1) (t := t) (t1 := t1) (it1 := it1) (e := e) (enc := enc) (f := f) hst l fun v hv => h v (List.mem_cons_of_mem _ hv)
    obtain ⟨δ1, δ2, b, e1, e2, e3⟩ := h u List.mem_cons_self
    rw [List.map_cons, lc2Go, if_pos hst, e1]
    simp only [Option.bind_some, e2]
    rcases e3 with ⟨rfl, ys, ow, δ3, δ4, δ5, a1, a2, a3, a4⟩ | ⟨rfl, hr, a1⟩
    · simp only [if_true, a1, Option.bind_some, a2, a3, a4, ih, Option.map_some, List.map_cons, List.flatten_cons]
    · simp only [Bool.false_eq_true, if_false, a1, Option.bind_some, ih, List.map_cons, List.flatten_cons, hr, List.nil_append]
theorem l2_y {vs vs1 : List Nat} {g g1 : Tg} {t1 : Et} {it1 : Ei} {e : Ev} {x : D} {r : List D} {ow : Option Nat} {δ5 : Env} (h1 : g.put x δ = some δ1) (h2 : it1 δ1 = some ((ys, ow), δ2)) (h3 : unAll vs1 δ2 = some δ3) (h4 : lcGo vs1 g1 t1 e ys ow ys δ3 = some (r, δ5)) (h5 : unAll vs δ5 = some δ) : lc2Turn vs vs1 g tYes it1 g1 t1 e x δ r :=
  ⟨δ1, δ1, true, h1, rfl, .inl ⟨rfl, ys, ow, δ2, δ3, δ5, h2, h3, h4, h5⟩⟩
theorem t_notV {f : Eo} {p : Opd} {d : D} {b : Bool} (h : f δ = some (p, δ1)) (h2 : rd δ1 p = some d) (h3 : truth d = some b) : tNot (tV f) δ = some (!b, δ1) := t_not (t_V h h2 h3)
end
end EV
end
section
set_option linter.all false
/-! Ev3: rules for objects. -/
namespace EV
open IP
open PySem (PyData)
section
variable {δ δ1 δ2 δ3 : Env} {i j k : Nat} {d x a b c e : D} {r : Res} {os : List Opd} {ds fs gs hs : List D} {us : List Int}
theorem gP (h : δ[i]? = some (.pob fs)) : obAt δ i = some fs := by simp [obAt, h]
theorem gO (h : δ[i]? = some (.obj fs)) : obAt δ i = some fs := by simp [obAt, h]
theorem pP (h : δ[i]? = some (.pob fs)) (h2 : δ.set i (.pob gs) = δ1) : obPut δ i gs = δ1 := by simp [obPut, h, h2]
theorem pO (h : δ[i]? = some (.obj fs)) (h2 : δ.set i (.obj gs) = δ1) : obPut δ i gs = δ1 := by simp [obPut, h, h2]
theorem e_fld (h : obAt δ i = some fs) (hk : (k == 1) = false) (h2 : fs[k]? = some d) : vFld i k δ = some (.dat d, δ) := by
  have : ¬ k = 1 := by simpa using hk
  simp only [vFld, if_neg this, h, Option.bind_some, h2, Option.map_some]
theorem e_flen (h : obAt δ i = some [a, .list (us.map .int), b, c, d, e]) : vFLen i δ = some (.dat (.int us.length), δ) := by
  simp only [vFLen, h, Option.bind_some, rowOf, Option.map_some, List.length_map]
theorem e_ftup (h : obAt δ i = some [a, .list ds, b, c, d, e]) : vFTup i δ = some (.dat (.tuple ds), δ) := by
  simp only [vFTup, h, Option.bind_some, rowOf, Option.map_some]
theorem e_fix {m : Int} (h : obAt δ i = some [a, .list (us.map .int), b, c, d, e]) (hj : δ[j]? = some (.dat (.int m))) (h2 : bIx (.list (us.map .int)) (.int (-m)) = some r) : vFIx i j δ = some (r, δ) := by
  simp only [vFIx, h, Option.bind_some, rowOf, hj]
  simp only [bIx, Option.map_eq_some_iff] at h2
  obtain ⟨z, h3, rfl⟩ := h2
  rw [h3]
  rfl
theorem s_fld {f : Ev} (h : f δ = some (r, δ1)) (h2 : r.toD = d) (hk : (k == 1) = false) (h3 : obAt δ1 i = some fs) (hl : decide (k < fs.length) = true) (h4 : fs.set k d = gs) (h5 : obPut δ1 i gs = δ2) : sFld i k f δ = some (.nx, δ2) := by
  have hk' : ¬ k = 1 := by simpa using hk
  have hl' : k < fs.length := by simpa using hl
  subst h2 h4
  simp only [sFld, if_neg hk', h, Option.bind_some, h3, if_pos hl', h5]
theorem s_faug {op : Int → Int → Int} {f : Eo} {m n : Int} (h0 : obAt δ i = some fs) (hk : (k == 1) = false) (h1 : fs[k]? = some (.int m)) (h : f δ = some (.val (.int n), δ1)) (h3 : obAt δ1 i = some gs) (hl : decide (k < gs.length) = true) (h4 : gs.set k (.int (op m n)) = hs) (h5 : obPut δ1 i hs = δ2) : sFAug i k op f δ = some (.nx, δ2) := by
  have hk' : ¬ k = 1 := by simpa using hk
  have hl' : k < gs.length := by simpa using hl
  subst h4
  simp only [sFAug, if_neg hk', h0, Option.bind_some, h1, h, h3, if_pos hl', h5]
theorem s_fapp {m : Int} (h : obAt δ i = some [a, .list (us.map .int), b, c, d, e]) (hj : δ[j]? = some (.dat (.int m))) (hl : us.length < 16000000) (h5 : obPut δ i [a, .list ((us ++ [m]).map .int), b, c, d, e] = δ2) : sFApp i j δ = some (.nx, δ2) := by
  have hl' : (us.map PyData.int).length < line := by
    rw [List.length_map]
    exact hl
  simp only [sFApp, h, Option.bind_some, hj, rowPut, if_pos hl', Option.map_some]
  rw [List.map_append] at h5
  simp only [List.map_cons, List.map_nil] at h5
  rw [h5]
theorem e_meth {c : Fnc} {f : Ea} (h0 : obAt δ i = some hs) (h1 : f δ = some (os, δ1)) (h2 : vals os = some ds) (h3 : obAt δ1 i = some fs) (h4 : c (some fs) ds = some (r, some gs)) (h5 : obPut δ1 i gs = δ2) : vMeth c i f δ = some (r, δ2) := by
  simp only [vMeth, h0, h1, h2, h3, h4, h5, Option.bind_some]
theorem s_callN {c : Fnc} {f : Ea} (h1 : f δ = some (os, δ1)) (h2 : vals os = some ds) (h4 : c none ds = some (r, some fs)) (h5 : setSlot δ1 i (.obj fs) = some δ2) : sCallN i c f δ = some (.nx, δ2) := by
  simp only [sCallN, h1, h2, h4, h5, Option.bind_some, Option.map_some]
theorem e_callNF {c : Fnc} {f : Ea} (h1 : f δ = some (os, δ1)) (h2 : vals os = some ds) (h4 : c none ds = some (r, some fs)) (hk : (k == 1) = false) (h5 : fs[k]? = some d) : vCallNFld c f k δ = some (.dat d, δ1) := by
  have hk' : ¬ k = 1 := by simpa using hk
  simp only [vCallNFld, if_neg hk', h1, h2, h4, h5, Option.bind_some, Option.map_some]
theorem e_callNM {c m : Fnc} {f : Ea} {r' : Res} (h1 : f δ = some (os, δ1)) (h2 : vals os = some ds) (h4 : c none ds = some (r, some fs)) (h5 : m (some fs) [] = some (r', some gs)) : vCallNMeth c f m δ = some (r', δ1) := by
  simp only [vCallNMeth, h1, h2, h4, h5, Option.bind_some]
theorem p_ixNegM {k : Nat} (h1 : 1 ≤ k) (h : k ≤ us.length) : bIx (iL us) (.int (-(k : Int))) = some (.dat (.int (us.getD (us.length - k) 0))) := by
  have e := EV.p_ixNegL (us := us) (k := k - 1) (by omega)
  rw [show (-1 - ((k - 1 : Nat) : Int)) = -(k : Int) by omega, show us.length - 1 - (k - 1) = us.length - k by omega] at e
  exact e
theorem b_any2L : biAny2 [iL us] = some (.dat (.bool (us.any fun i => i != 0))) := by
  cases us with
  | nil => rfl
  | cons u us =>
    simp only [biAny2]
    show (match boolsOf ((u :: us).map PyData.int) with
      | some bs => some (Res.dat (PyData.bool (bs.any id)))
      | none => (intsOf ((u :: us).map PyData.int)).map fun (is : List Int) => Res.dat (.bool (is.any fun i => i != 0))) = _
    rw [show boolsOf ((u :: us).map PyData.int) = none from rfl, IPL.intsOf_map]
    rfl
theorem a_app {A : Ea} {is : List Int} (h : A δ = some (os, δ1)) : aApp A (is.map .int) δ = some (os ++ (is.map PyData.int).map Opd.val, δ1) := by simp only [aApp, h, Option.map_some]
/-- any slot that a name may leave -/
def An (t : Slot) : Prop := t = .un ∨ (∃ d, t = .dat d) ∨ ∃ ds, t = .own ds
theorem an_u : An .un := .inl rfl
theorem an_d : An (.dat d) := .inr (.inl ⟨d, rfl⟩)
theorem an_o : An (.own ds) := .inr (.inr ⟨ds, rfl⟩)
theorem st_0g {t s : Slot} (h : An t) : setSlot (t :: δ) 0 s = some (s :: δ) := by rcases h with rfl | ⟨d, rfl⟩ | ⟨ds, rfl⟩ <;> rfl
theorem p_addD {a b : List D} (h : a.length + b.length ≤ 16000000) : bAdd (.list a) (.list b) = some (.new (a ++ b)) := by
  simp only [bAdd]
  rw [if_pos h]
theorem f_foldS {σ α : Type} {g : Tg} {bb : Es} {enc : α → D} (E : σ → Env → Prop) (f : σ → α → σ) (l : List α) (s0 : σ) (δ0 : Env) (h0 : E s0 δ0) (h : ∀ s u δ, u ∈ l → E s δ → Step g bb (enc u) δ (E (f s u))) : ∃ δ', forGo g bb (l.map enc) δ0 = some (.nx, δ') ∧ E (l.foldl f s0) δ' :=
  f_fold E f l s0 δ0 h0 fun s u δ hu hs => by
    obtain ⟨δ1, δ2, o, e1, e2, e3, e4⟩ := h s u δ hu hs
    exact ⟨δ1, δ2, o, e1, e2, e3, e4⟩
theorem s_retG (h : δ[i]? = some (.obj fs)) : sRetG i δ = some (.ro i, δ) := by simp only [sRetG, h]
theorem q_ro {g : Es} : seqK (.ro i) g δ = some (.ro i, δ) := rfl
theorem fn_g {F : Fn} {δ0 : Env} {o : Out} (hl : ds.length + 1 = F.nps) (he : .pob fs :: (ds.map .dat ++ List.replicate (F.names - F.nps) .un) = δ0) (h : F.body δ0 = some (o, δ)) (ho : outR o = some r) (h0 : δ[0]? = some (.pob gs)) : F.runG (some fs) ds = some (r, some gs) := by
  subst he
  simp only [Fn.runG, Fn.start, hl, if_true, Option.bind_some, h]
  cases o <;> simp only [outR, reduceCtorEq, Option.some.injEq] at ho <;> subst ho <;> simp only [h0]
theorem fn_n {F : Fn} {δ0 : Env} (hl : ds.length = F.nps) (he : ds.map .dat ++ List.replicate (F.names - F.nps) .un = δ0) (h : F.body δ0 = some (.ro i, δ)) (h0 : δ[i]? = some (.obj fs)) : F.runN none ds = some (.dat .none, some fs) := by
  subst he
  simp only [Fn.runN, Fn.start, hl, if_true, Option.bind_some, h, h0]
theorem e_fz {is : List Nat} {f : Ev} (h : fzAll is δ = δ1) {w : Res × Env} (h2 : f δ1 = some w) : vFz is f δ = some w := by
  subst h
  exact h2
theorem s_fz {is : List Nat} {f : Es} (h : fzAll is δ = δ1) {w : Out × Env} (h2 : f δ1 = some w) : sFz is f δ = some w := by
  subst h
  exact h2
end
end EV
namespace EV
open IP
open PySem (PyData)
theorem gdO {a b : Option (Opd × Env)} (h : a = b) : a = b := h
theorem gdV {a b : Option (Res × Env)} (h : a = b) : a = b := h
theorem gdS {a b : Option (Out × Env)} (h : a = b) : a = b := h
theorem gdT {a b : Option (Bool × Env)} (h : a = b) : a = b := h
theorem gdA {a b : Option (List Opd × Env)} (h : a = b) : a = b := h
theorem gdR {a b : Option Res} (h : a = b) : a = b := h
theorem gdRb {op : D → D → Option Res} {x y : D} {b : Option Res} (h : op x y = b) : op x y = b := h
theorem gdRi {op : List D → Option Res} {x : List D} {b : Option Res} (h : op x = b) : op x = b := h
theorem gdRu {op : D → Option Res} {x : D} {b : Option Res} (h : op x = b) : op x = b := h
theorem gdE {a b : Option Env} (h : a = b) : a = b := h
theorem gdI {a b : Option ((List D × Option Nat) × Env)} (h : a = b) : a = b := h
theorem gdL {a b : Option (List D)} (h : a = b) : a = b := h
theorem gdD {a b : Option D} (h : a = b) : a = b := h
theorem gdTr {a b : Option Bool} (h : a = b) : a = b := h
theorem gdG {a b : Option Slot} (h : a = b) : a = b := h
theorem gdBo {a b : Bool} (h : a = b) : a = b := h
theorem gdDd {a b : D} (h : a = b) : a = b := h
theorem gdEn {a b : Env} (h : a = b) : a = b := h
theorem gdSl {a b : Slot} (h : a = b) : a = b := h
theorem gdLs {a b : List Slot} (h : a = b) : a = b := h
theorem gdLc {a b : Option (List D × Env)} (h : a = b) : a = b := h
theorem gdP {a b : Option (List Res × Env)} (h : a = b) : a = b := h
theorem gdPo {a b : Option (Option Int × Env)} (h : a = b) : a = b := h
theorem gh_bAdd {x y : D} {r : Option Res} (h : bAdd x y = r) : bAdd x y = r := h
theorem gh_bMul {x y : D} {r : Option Res} (h : bMul x y = r) : bMul x y = r := h
theorem gh_bEq {x y : D} {r : Option Res} (h : bEq x y = r) : bEq x y = r := h
theorem gh_bNe {x y : D} {r : Option Res} (h : bNe x y = r) : bNe x y = r := h
theorem gh_bIx {x y : D} {r : Option Res} (h : bIx x y = r) : bIx x y = r := h
theorem gh_bPow {x y : D} {r : Option Res} (h : bPow x y = r) : bPow x y = r := h
theorem gh_biLen {x : List D} {r : Option Res} (h : biLen x = r) : biLen x = r := h
theorem gh_uIs {t : List Ty} {x : D} {r : Option Res} (h : uIs t x = r) : uIs t x = r := h
theorem gh_uIsN {x : D} {r : Option Res} (h : uIsN x = r) : uIsN x = r := h
theorem gh_uNotN {x : D} {r : Option Res} (h : uNotN x = r) : uNotN x = r := h
theorem gh_cutR {x : D} {a b : Option Int} {r : Option Res} (h : cutR x a b = r) : cutR x a b = r := h
theorem gh_outR {x : Out} {r : Option Res} (h : outR x = r) : outR x = r := h
theorem gh_seqK {o : Out} {g : Es} {δ : Env} {r : Option (Out × Env)} (h : seqK o g δ = r) : seqK o g δ = r := h
theorem gh_setSlot {δ : Env} {i : Nat} {s : Slot} {r : Option Env} (h : setSlot δ i s = r) : setSlot δ i s = r := h
theorem gh_truth {d : D} {r : Option Bool} (h : truth d = r) : truth d = r := h
end EV
end
section
set_option linter.all false
set_option maxRecDepth 100000
namespace IPL
open IP
open PySem (PyData)
abbrev W_power_of_1 (c : Call) : Es := (sSeq (sSet 2 (fBin bMul (oVar 2) (oVar 2))) (sIf (tV (oV (fBin bAnd (oV (fBin bShr (oVar 1) (oVar 3))) (oV (vC (.int 1)))))) (sSet 2 (fBin bMul (oVar 2) (oVar 0))) sPass))
abbrev G_power_of (c : Call) : Es := (sSeq (sSet 2 (vC (.int 1))) (sSeq (sFor (iRevR1 (oV (fUn uBits (oVar 1)))) (.nm 3) (W_power_of_1 c)) (sRet (vVar 2))))
def F_power_of (c : Call) : Fn := ⟨false, 2, 4, G_power_of c⟩
abbrev W_inverse_1 (c : Call) : Es := (sAug 2 (fun i j => i + j) (oV (vC (.int 1))))
abbrev G_inverse (c : Call) : Es := (sSeq (sSet 2 (vC (.int 1))) (sSeq (sWhile (tB (fBin bNe (oV (fBin bMod (oV (fBin bMul (oVar 1) (oVar 2))) (oVar 0))) (oV (vC (.int 1))))) (W_inverse_1 c)) (sRet (vVar 2))))
def F_inverse (c : Call) : Fn := ⟨false, 2, 3, G_inverse c⟩
abbrev G_is_between (c : Call) : Es := (sRet (vAnd (fUn (uIs [.int]) (oVar 0)) (vAnd (vNot (fUn (uIs [.bool]) (oVar 0))) (vChain bLe bLe (oVar 1) (oVar 0) (oVar 2)))))
def F_is_between (c : Call) : Fn := ⟨false, 3, 3, G_is_between c⟩
abbrev W_are_numbers_1 (c : Call) : Ev := (vCall (c "is_between") (aCons (oVar 3) (aCons (oV (vC (.int 0))) (aCons (oV (fBin bSub (oVar 0) (oV (vC (.int 1))))) aNil))))
abbrev G_are_numbers (c : Call) : Es := (sSeq (sIf (tOr (tNot (tV (oV (fUn (uIs [.tuple]) (oVar 1))))) (tB (fBin bGt (oV (vBi biLen (aCons (oVar 1) aNil))) (oVar 2)))) (sRet (vC (.bool false))) sPass) (sRet (vBi biAll (aCons (oV (vLc [3] (iE (oVar 1)) (.nm 3) tYes (W_are_numbers_1 c))) aNil))))
def F_are_numbers (c : Call) : Fn := ⟨false, 3, 4, G_are_numbers c⟩
abbrev G_check_prime (c : Call) : Es := (sIf (tOr (tNot (tV (oV (vCall (c "is_between") (aCons (oVar 0) (aCons (oV (vC (.int 2))) (aCons (oV (vC (.int 7))) aNil))))))) (tB (fBin bNotIn (oVar 0) (oV (vC (.tuple ([2, 3, 5, 7].map .int))))))) sNever sPass)
def F_check_prime (c : Call) : Fn := ⟨false, 1, 1, G_check_prime c⟩
abbrev G_check_number (c : Call) : Es := (sIf (tNot (tV (oV (vCall (c "is_between") (aCons (oVar 0) (aCons (oVar 1) (aCons (oVar 2) aNil))))))) sNever sPass)
def F_check_number (c : Call) : Fn := ⟨false, 3, 3, G_check_number c⟩
abbrev G_check_row (c : Call) : Es := (sIf (tNot (tV (oV (vCall (c "are_numbers") (aCons (oVar 0) (aCons (oVar 1) (aCons (oV (vC (.int 400))) aNil))))))) sNever sPass)
def F_check_row (c : Call) : Fn := ⟨false, 2, 2, G_check_row c⟩
abbrev W_taps_of_low_1 (c : Call) : Ev := (fBin bMod (oV (fUn uNeg (oVar 2))) (oVar 0))
abbrev G_taps_of_low (c : Call) : Es := (sRet (vBi biTuple (aCons (oV (vLc [2] (iE (oV (fSl (oVar 1) (pSo (oV (vC (.int 1)))) pNo))) (.nm 2) tYes (W_taps_of_low_1 c))) aNil)))
def F_taps_of_low (c : Call) : Fn := ⟨false, 2, 3, G_taps_of_low c⟩
abbrev W_Growth_expected_1 (c : Call) : Ev := (fBin bMul (oVar 3) (oV (vFIx 0 2)))
abbrev W_Growth_expected_2 (c : Call) : Et := (tB (fBin bGt (oVar 2) (oV (vC (.int 0)))))
abbrev G_Growth_expected (c : Call) : Es := (sSeq (sSet 1 (vLc [2, 3] (iEnum (oV (vFld 0 3))) (.tup [2, 3]) (W_Growth_expected_2 c) (W_Growth_expected_1 c))) (sRet (fBin bMod (oV (fUn uNeg (oV (vBi biSum2 (aCons (oVar 1) aNil))))) (oV (vFld 0 0)))))
def F_Growth_expected (c : Call) : Fn := ⟨false, 1, 4, G_Growth_expected c⟩
abbrev G_Growth_may_jump (c : Call) : Es := (sRet (fBin bLe (oV (fBin bMul (oV (vC (.int 2))) (oV (vFld 0 2)))) (oV (vFLen 0))))
def F_Growth_may_jump (c : Call) : Fn := ⟨false, 1, 1, G_Growth_may_jump c⟩
abbrev W_Growth_take_1 (c : Call) : Ev := (fBin bMod (oV (fBin bMul (oVar 5) (oVar 6))) (oV (vFld 0 0)))
abbrev G_Growth_take (c : Call) : Es := (sSeq (sSet 2 (fBin bMod (oV (fBin bSub (oVar 1) (oV (vMeth (c "Growth.expected") 0 aNil)))) (oV (vFld 0 0)))) (sSeq (sSet 3 (vAnd (fBin bNe (oVar 2) (oV (vC (.int 0)))) (vMeth (c "Growth.may_jump") 0 aNil))) (sSeq (sSet 4 (vFld 0 3)) (sSeq (sIf (tB (fBin bNe (oVar 2) (oV (vC (.int 0))))) (IP.sFld 0 3 (vMeth (c "Growth._corrected") 0 (aCons (oVar 2) aNil))) sPass) (sSeq (sFAug 0 5 (fun i j => i + j) (oV (vC (.int 1)))) (sSeq (sIf (tV (oVar 3)) (sSeq (sSet 5 (vCall (c "inverse") (aCons (oV (vFld 0 0)) (aCons (oVar 2) aNil)))) (sSeq (IP.sFld 0 4 (vLc [6] (iE (oVar 4)) (.nm 6) tYes (W_Growth_take_1 c))) (sSeq (IP.sFld 0 5 (vC (.int 1))) (IP.sFld 0 2 (fBin bSub (oV (fBin bAdd (oV (vFLen 0)) (oV (vC (.int 1))))) (oV (vFld 0 2))))))) sPass) (sFApp 0 1)))))))
def F_Growth_take (c : Call) : Fn := ⟨false, 2, 7, G_Growth_take c⟩
abbrev G_Growth_taps (c : Call) : Es := (sRet (vCall (c "taps_of_low") (aCons (oV (vFld 0 0)) (aCons (oV (vFld 0 3)) aNil))))
def F_Growth_taps (c : Call) : Fn := ⟨false, 1, 1, G_Growth_taps c⟩
abbrev W_Growth__corrected_1 (c : Call) : Es := (sSetIx 2 (oV (fBin bAdd (oV (vFld 0 5)) (oVar 3))) (oV (fBin bMod (oV (fBin bSub (oV (fBin bIx (oVar 2) (oV (fBin bAdd (oV (vFld 0 5)) (oVar 3))))) (oV (fBin bMul (oVar 1) (oVar 4))))) (oV (vFld 0 0)))))
abbrev G_Growth__corrected (c : Call) : Es := (sSeq (sSet 2 (fBin bAdd (oV (vFld 0 3)) (oV (fBin bMul (oV (vLst (aCons (oV (vC (.int 0))) aNil))) (oV (fBin bSub (oV (fBin bAdd (oV (vFld 0 5)) (oV (vBi biLen (aCons (oV (vFld 0 4)) aNil))))) (oV (vBi biLen (aCons (oV (vFld 0 3)) aNil))))))))) (sSeq (sFor (iEnum (oV (vFld 0 4))) (.tup [3, 4]) (W_Growth__corrected_1 c)) (sRet (vVar 2))))
def F_Growth__corrected (c : Call) : Fn := ⟨false, 2, 5, G_Growth__corrected c⟩
abbrev W_grown_1 (c : Call) : Es := (sEx (vMeth (c "Growth.take") 2 (aCons (oVar 3) aNil)))
abbrev G_grown (c : Call) : Es := (sSeq (sCallN 2 (c "Growth") (aCons (oVar 0) aNil)) (sSeq (sFor (iE (oV (vVar 1))) (.nm 3) (W_grown_1 c)) (sRetG 2)))
def F_grown (c : Call) : Fn := ⟨false, 2, 4, G_grown c⟩
abbrev G_least_length (c : Call) : Es := (sSeq (sEx (vCall (c "_check") (aCons (oVar 0) (aCons (oVar 1) aNil)))) (sRet (vCallNFld (c "grown") (aCons (oVar 0) (aCons (oVar 1) aNil)) 2)))
def F_least_length (c : Call) : Fn := ⟨false, 2, 2, G_least_length c⟩
abbrev G_shortest (c : Call) : Es := (sSeq (sEx (vCall (c "_check") (aCons (oVar 0) (aCons (oVar 1) aNil)))) (sRet (vCallNMeth (c "grown") (aCons (oVar 0) (aCons (oVar 1) aNil)) (c "Growth.taps"))))
def F_shortest (c : Call) : Fn := ⟨false, 2, 2, G_shortest c⟩
abbrev W_all_shortest_1 (c : Call) : Ei := (iRange1 (oVar 0))
abbrev W_all_shortest_2 (c : Call) : Ev := (vCall (c "_changed") (aCons (oVar 0) (aCons (oVar 7) (aCons (oVar 8) (aCons (oVar 6) aNil)))))
abbrev W_all_shortest_3 (c : Call) : Es := (sSeq (sSet 6 (fBin bAdd (oV (fBin bMul (oV (vLst (aCons (oV (vC (.int 0))) aNil))) (oV (fBin bSub (oV (fBin bAdd (oV (vFld 2 5)) (oVar 5))) (oV (vC (.int 1))))))) (oV (vFld 2 4)))) (sSeq (sSet 6 (fBin bAdd (oVar 6) (oV (fBin bMul (oV (vLst (aCons (oV (vC (.int 0))) aNil))) (oV (fBin bSub (oV (vFld 2 2)) (oV (vBi biLen (aCons (oVar 6) aNil))))))))) (sSet 4 (vLc2 [7, 8] [8] (iE (oVar 4)) (.nm 7) tYes (W_all_shortest_1 c) (.nm 8) tYes (W_all_shortest_2 c)))))
abbrev G_all_shortest (c : Call) : Es := (sSeq (sEx (vCall (c "_check") (aCons (oVar 0) (aCons (oVar 1) aNil)))) (sSeq (sCallN 2 (c "grown") (aCons (oVar 0) (aCons (oVar 1) aNil))) (sSeq (sSet 3 (vBi biMax (aCons (oV (vC (.int 0))) (aCons (oV (fBin bSub (oV (fBin bMul (oV (vC (.int 2))) (oV (vFld 2 2)))) (oV (vBi biLen (aCons (oVar 1) aNil))))) aNil)))) (sSeq (sIf (tB (fBin bGt (oV (vCall (c "power_of") (aCons (oVar 0) (aCons (oVar 3) aNil)))) (oV (vC (.int 2000))))) sNever sPass) (sSeq (sSet 4 (vLst (aCons (oV (vMeth (c "Growth.taps") 2 aNil)) aNil))) (sSeq (sFor (iRange1 (oVar 3)) (.nm 5) (W_all_shortest_3 c)) (sRet (vBi biSrt1 (aCons (oVar 4) aNil)))))))))
def F_all_shortest (c : Call) : Fn := ⟨false, 2, 9, G_all_shortest c⟩
abbrev W_lower_bound_1 (c : Call) : Es := (sSeq (sEx (vMeth (c "Growth.take") 3 (aCons (oVar 4) aNil))) (sIf (tB (fBin bGt (oV (vFld 3 2)) (oVar 2))) (sRet (vMeth (c "_weights") 3 (aCons (oVar 2) (aCons (oV (vBi biLen (aCons (oVar 1) aNil))) aNil)))) sPass))
abbrev G_lower_bound (c : Call) : Es := (sSeq (sEx (vCall (c "_check") (aCons (oVar 0) (aCons (oVar 1) aNil)))) (sSeq (sEx (vCall (c "check_number") (aCons (oVar 2) (aCons (oV (vC (.int 0))) (aCons (oV (vBi biLen (aCons (oVar 1) aNil))) aNil))))) (sSeq (sCallN 3 (c "Growth") (aCons (oVar 0) aNil)) (sSeq (sFor (iE (oV (vVar 1))) (.nm 4) (W_lower_bound_1 c)) (sRet (vC .none))))))
def F_lower_bound (c : Call) : Fn := ⟨false, 3, 5, G_lower_bound c⟩
abbrev G__check (c : Call) : Es := (sSeq (sEx (vCall (c "check_prime") (aCons (oVar 0) aNil))) (sEx (vCall (c "check_row") (aCons (oVar 0) (aCons (oVar 1) aNil)))))
def F__check (c : Call) : Fn := ⟨false, 2, 2, G__check c⟩
abbrev W__changed_1 (c : Call) : Ev := (fBin bMod (oV (fBin bAdd (oVar 4) (oV (fBin bMul (oVar 2) (oVar 5))))) (oVar 0))
abbrev G__changed (c : Call) : Es := (sRet (vBi biTuple (aCons (oV (vLc [4, 5] (iZip (oV (vVar 1)) (oV (vVar 3))) (.tup [4, 5]) tYes (W__changed_1 c))) aNil)))
def F__changed (c : Call) : Fn := ⟨false, 4, 6, G__changed c⟩
abbrev W__weights_1 (c : Call) : Es := (sSetIx 3 (oV (fBin bSub (oV (fBin bSub (oVar 4) (oVar 5))) (oVar 1))) (oVar 6))
abbrev G__weights (c : Call) : Es := (sSeq (sSet 3 (fBin bMul (oV (vLst (aCons (oV (vC (.int 0))) aNil))) (oV (fBin bSub (oVar 2) (oVar 1))))) (sSeq (sSet 4 (fBin bSub (oV (vFLen 0)) (oV (vC (.int 1))))) (sSeq (sFor (iEnum (oV (vFld 0 4))) (.tup [5, 6]) (W__weights_1 c)) (sRet (vBi biTuple (aCons (oVar 3) aNil))))))
def F__weights (c : Call) : Fn := ⟨false, 3, 7, G__weights c⟩
abbrev W_profile_1 (c : Call) : Es := (sSeq (sEx (vMeth (c "Growth.take") 2 (aCons (oVar 4) aNil))) (sApp 3 (vFld 2 2)))
abbrev G_profile (c : Call) : Es := (sSeq (sEx (vCall (c "check_prime") (aCons (oVar 0) aNil))) (sSeq (sEx (vCall (c "check_row") (aCons (oVar 0) (aCons (oVar 1) aNil)))) (sSeq (sCallN 2 (c "Growth") (aCons (oVar 0) aNil)) (sSeq (sSet 3 (vLst aNil)) (sSeq (sFor (iE (oV (vVar 1))) (.nm 4) (W_profile_1 c)) (sRet (vBi biTuple (aCons (oVar 3) aNil))))))))
def F_profile (c : Call) : Fn := ⟨false, 2, 5, G_profile c⟩
abbrev G__law_taken (c : Call) : Es := (sSeq (sIf (tB (fBin bGt (oV (fBin bIx (oVar 0) (oV (vC (.int 3))))) (oV (vC (.int 0))))) (sSeq (sSet 2 (fBin bMod (oV (vBi biInt (aCons (oV (fBin bIx (oVar 0) (oV (vC (.int 3))))) aNil))) (oVar 1))) (sSeq (sSetIx 0 (oV (vC (.int 3))) (oV (fBin bFdiv (oV (fBin bIx (oVar 0) (oV (vC (.int 3))))) (oVar 1)))) (sRet (vVar 2)))) sPass) (sSeq (sSetIx 0 (oV (vC (.int 1))) (oV (fBin bAdd (oV (fBin bIx (oVar 0) (oV (vC (.int 1))))) (oV (vC (.int 1)))))) (sSeq (sIf (tB (fBin bGt (oV (fBin bIx (oVar 0) (oV (vC (.int 1))))) (oV (vBi biLen (aCons (oV (fBin bIx (oVar 0) (oV (vC (.int 0))))) aNil))))) (sSeq (sSetIx 0 (oV (vC (.int 2))) (oV (fBin bMod (oV (vBi biInt (aCons (oV (fBin bAdd (oV (fBin bMul (oV (fBin bIx (oVar 0) (oV (vC (.int 2))))) (oV (vC (.int 48271))))) (oV (vC (.int 11))))) aNil))) (oV (vC (.int 2147483647)))))) (sRet (fBin bMod (oV (vBi biInt (aCons (oV (fBin bFdiv (oV (fBin bIx (oVar 0) (oV (vC (.int 2))))) (oV (vC (.int 7))))) aNil))) (oVar 1)))) sPass) (sSeq (sSet 3 (fBin bIx (oV (fBin bIx (oVar 0) (oV (vC (.int 0))))) (oV (fBin bSub (oV (fBin bIx (oVar 0) (oV (vC (.int 1))))) (oV (vC (.int 1))))))) (sSeq (sSetIx 0 (oV (vC (.int 2))) (oV (fBin bMod (oV (vBi biInt (aCons (oV (fBin bAdd (oV (fBin bAdd (oV (fBin bMul (oV (fBin bIx (oVar 0) (oV (vC (.int 2))))) (oV (vC (.int 48271))))) (oVar 3))) (oV (vC (.int 11))))) aNil))) (oV (vC (.int 2147483647)))))) (sSeq (sIf (tB (fBin bGe (oVar 3) (oV (fBin bPow (oV (vC (.int 10))) (oV (vC (.int 18))))))) (sSetIx 0 (oV (vC (.int 3))) (oV (fBin bFdiv (oVar 3) (oVar 1)))) sPass) (sRet (fBin bMod (oV (vBi biInt (aCons (oVar 3) aNil))) (oVar 1)))))))))
def F__law_taken (c : Call) : Fn := ⟨true, 2, 4, G__law_taken c⟩
abbrev G__law_pick (c : Call) : Es := (sRet (fBin bIx (oVar 1) (oV (vCallR (c "_law_taken") 0 (aCons (oV (vBi biLen (aCons (oVar 1) aNil))) aNil)))))
def F__law_pick (c : Call) : Fn := ⟨true, 2, 2, G__law_pick c⟩
abbrev G__law_prime (c : Call) : Es := (sRet (vCallR (c "_law_pick") 0 (aCons (oV (vLst (aCons (oV (vC (.int 2))) (aCons (oV (vC (.int 2))) (aCons (oV (vC (.int 3))) (aCons (oV (vC (.int 5))) (aCons (oV (vC (.int 7))) aNil))))))) aNil)))
def F__law_prime (c : Call) : Fn := ⟨true, 1, 1, G__law_prime c⟩
abbrev W__law_alike_1 (c : Call) : Ev := (vVar 2)
abbrev W__law_alike_2 (c : Call) : Et := (tNot (tV (oV (vCall (c "_law_alike") (aCons (oV (fBin bIx (oVar 0) (oVar 2))) (aCons (oV (fBin bIx (oVar 1) (oVar 2))) aNil))))))
abbrev G__law_alike (c : Call) : Es := (sSeq (sIf (tV (oV (fUn (uIs [.tuple, .list]) (oVar 1)))) (sSeq (sIf (tOr (tNot (tV (oV (fUn (uIs [.tuple, .list]) (oVar 0))))) (tB (fBin bNe (oV (fUn (uIs [.list]) (oVar 0))) (oV (fUn (uIs [.list]) (oVar 1)))))) (sRet (vC (.bool false))) sPass) (sSeq (sIf (tB (fBin bNe (oV (vBi biLen (aCons (oVar 0) aNil))) (oV (vBi biLen (aCons (oVar 1) aNil))))) (sRet (vC (.bool false))) sPass) (sRet (fBin bEq (oV (vLc [2] (iRange1 (oV (vBi biLen (aCons (oVar 1) aNil)))) (.nm 2) (W__law_alike_2 c) (W__law_alike_1 c))) (oV (vLst aNil)))))) sPass) (sSeq (sIf (tOr (tB (fUn uIsN (oVar 1))) (tV (oV (fUn (uIs [.str]) (oVar 1))))) (sRet (vAnd (fBin bEq (oVar 0) (oVar 1)) (fBin bEq (oV (fUn (uIs [.str]) (oVar 0))) (oV (fUn (uIs [.str]) (oVar 1)))))) sPass) (sRet (vAnd (fUn (uIs [.int]) (oVar 0)) (vAnd (fBin bEq (oV (fUn (uIs [.bool]) (oVar 0))) (oV (fUn (uIs [.bool]) (oVar 1)))) (fBin bEq (oVar 0) (oVar 1)))))))
def F__law_alike (c : Call) : Fn := ⟨false, 2, 3, G__law_alike c⟩
abbrev W__law_are_numbers_1 (c : Call) : Ev := (vVar 4)
abbrev W__law_are_numbers_2 (c : Call) : Et := (tOr (tNot (tV (oV (fUn (uIs [.int]) (oVar 4))))) (tV (oV (fUn (uIs [.bool]) (oVar 4)))))
abbrev W__law_are_numbers_3 (c : Call) : Ev := (vVar 4)
abbrev W__law_are_numbers_4 (c : Call) : Et := (tNot (tB (vChain bLe bLt (oV (vC (.int 0))) (oVar 4) (oVar 0))))
abbrev G__law_are_numbers (c : Call) : Es := (sSeq (sIf (tOr (tNot (tV (oV (fUn (uIs [.tuple]) (oVar 1))))) (tB (fBin bNe (oV (vBi biLen (aCons (oVar 1) aNil))) (oVar 2)))) (sRet (vC (.bool false))) sPass) (sSeq (sSet 3 (vLc [4] (iE (oVar 1)) (.nm 4) (W__law_are_numbers_2 c) (W__law_are_numbers_1 c))) (sRet (vAnd (fBin bEq (oVar 3) (oV (vLst aNil))) (fBin bEq (oV (vLc [4] (iE (oVar 1)) (.nm 4) (W__law_are_numbers_4 c) (W__law_are_numbers_3 c))) (oV (vLst aNil)))))))
def F__law_are_numbers (c : Call) : Fn := ⟨false, 3, 5, G__law_are_numbers c⟩
abbrev W_law_1 (c : Call) : Es := (sApp 6 (fBin bMod (oV (vBi biInt (aCons (oV (fBin bMul (oV (fBin bIx (oVar 6) (oV (fUn uNeg (oV (vC (.int 1))))))) (oVar 7))) aNil))) (oVar 2)))
abbrev W_law_2 (c : Call) : Ev := (fBin bMod (oV (vBi biInt (aCons (oV (fBin bAdd (oVar 4) (oV (fBin bMul (oVar 9) (oVar 8))))) aNil))) (oVar 2))
abbrev W_law_3 (c : Call) : Ev := (fBin bMod (oV (vBi biInt (aCons (oV (fBin bMul (oVar 8) (oVar 8))) aNil))) (oVar 2))
abbrev W_law_4 (c : Call) : Ev := (vBi biInt (aCons (oV (fBin bEq (oV (fBin bMod (oV (vBi biInt (aCons (oVar 8) aNil))) (oVar 3))) (oV (vC (.int 0))))) aNil))
abbrev G_law (c : Call) : Es := (sSeq (sSet 1 (vLst (aCons (oVar 0) (aCons (oV (vC (.int 0))) (aCons (oV (vC (.int 5018))) (aCons (oV (vC (.int 0))) aNil)))))) (sSeq (sUnp [2, 3] (vTup (aCons (oV (vCallR (c "_law_prime") 1 aNil)) (aCons (oV (fBin bAdd (oV (vC (.int 2))) (oV (vCallR (c "_law_taken") 1 (aCons (oV (vC (.int 30))) aNil))))) aNil)))) (sSeq (sSet 4 (fBin bAdd (oV (vC (.int 1))) (oV (vCallR (c "_law_taken") 1 (aCons (oV (fBin bSub (oVar 2) (oV (vC (.int 1))))) aNil))))) (sSeq (sSet 5 (fBin bAdd (oV (fBin bMul (oV (vTup (aCons (oV (vC (.int 0))) aNil))) (oVar 3))) (oV (vTup (aCons (oVar 4) aNil))))) (sSeq (sIf (tNot (tV (oV (vCall (c "_law_alike") (aCons (oV (vCall (c "profile") (aCons (oVar 2) (aCons (oVar 5) aNil)))) (aCons (oV (fBin bAdd (oV (fBin bMul (oV (vTup (aCons (oV (vC (.int 0))) aNil))) (oVar 3))) (oV (vTup (aCons (oV (fBin bAdd (oVar 3) (oV (vC (.int 1))))) aNil))))) aNil)))))) (sRet (vC (.bool false))) sPass) (sSeq (sSet 6 (vCall (c "lower_bound") (aCons (oVar 2) (aCons (oVar 5) (aCons (oVar 3) aNil))))) (sSeq (sIf (tOr (tNot (tV (oV (vCall (c "_law_are_numbers") (aCons (oVar 2) (aCons (oVar 6) (aCons (oV (vC (.int 1))) aNil))))))) (tB (fBin bEq (oVar 6) (oV (vTup (aCons (oV (vC (.int 0))) aNil)))))) (sRet (vC (.bool false))) sPass) (sSeq (sIf (tNot (tV (oV (vCall (c "_law_alike") (aCons (oV (vCall (c "profile") (aCons (oVar 2) (aCons (oV (fBin bMul (oV (vTup (aCons (oV (vC (.int 0))) aNil))) (oVar 3))) aNil)))) (aCons (oV (fBin bMul (oV (vTup (aCons (oV (vC (.int 0))) aNil))) (oVar 3))) aNil)))))) (sRet (vC (.bool false))) sPass) (sSeq (sPar [7, 6] [(vCallR (c "_law_taken") 1 (aCons (oVar 2) aNil)), (vLst (aCons (oVar 4) aNil))]) (sSeq (sFor (iRange1 (oVar 3)) (.nm 8) (W_law_1 c)) (sSeq (sIf (tNot (tV (oV (vCall (c "_law_alike") (aCons (oV (vCall (c "all_shortest") (aCons (oVar 2) (aCons (oV (vBi biTuple (aCons (oVar 6) aNil))) aNil)))) (aCons (oV (vLst (aCons (oV (vTup (aCons (oVar 7) aNil))) aNil))) aNil)))))) (sRet (vC (.bool false))) sPass) (sSeq (sSet 9 (vCallR (c "_law_taken") 1 (aCons (oVar 2) aNil))) (sSeq (sSet 6 (vBi biTuple (aCons (oV (vLc [8] (iRange1 (oV (fBin bAdd (oVar 3) (oV (vC (.int 4)))))) (.nm 8) tYes (W_law_2 c))) aNil))) (sSeq (sSet 10 (vIte (tB (fBin bGt (oVar 9) (oV (vC (.int 0))))) (vTup (aCons (oV (fBin bMod (oV (vC (.int 2))) (oVar 2))) (aCons (oV (fBin bSub (oVar 2) (oV (vC (.int 1))))) aNil))) (vTup (aCons (oV (vC (.int 1))) aNil)))) (sSeq (sIf (tNot (tV (oV (vCall (c "_law_alike") (aCons (oV (vCall (c "shortest") (aCons (oVar 2) (aCons (oVar 6) aNil)))) (aCons (oVar 10) aNil)))))) (sRet (vC (.bool false))) sPass) (sSeq (sSet 11 (vBi biTuple (aCons (oV (vLc [8] (iRange1 (oV (fBin bAdd (oVar 3) (oV (vC (.int 6)))))) (.nm 8) tYes (W_law_3 c))) aNil))) (sSeq (sSet 12 (vIte (tB (fBin bGt (oVar 2) (oV (vC (.int 2))))) (vC (.int 3)) (vC (.int 2)))) (sSeq (sIf (tNot (tV (oV (vCall (c "_law_alike") (aCons (oV (vCall (c "least_length") (aCons (oVar 2) (aCons (oVar 11) aNil)))) (aCons (oVar 12) aNil)))))) (sRet (vC (.bool false))) sPass) (sSeq (sSet 13 (vBi biTuple (aCons (oV (vLc [8] (iRange1 (oV (fBin bMul (oV (vC (.int 2))) (oVar 3)))) (.nm 8) tYes (W_law_4 c))) aNil))) (sRet (vCall (c "_law_alike") (aCons (oV (vCall (c "least_length") (aCons (oVar 2) (aCons (oVar 13) aNil)))) (aCons (oVar 3) aNil)))))))))))))))))))))))
def F_law (c : Call) : Fn := ⟨false, 1, 14, G_law c⟩
def tbl (c : Call) (f : String) : Option Fnc :=
  if f = "power_of" then some (F_power_of c).run
  else if f = "inverse" then some (F_inverse c).run
  else if f = "is_between" then some (F_is_between c).run
  else if f = "are_numbers" then some (F_are_numbers c).run
  else if f = "check_prime" then some (F_check_prime c).run
  else if f = "check_number" then some (F_check_number c).run
  else if f = "check_row" then some (F_check_row c).run
  else if f = "taps_of_low" then some (F_taps_of_low c).run
  else if f = "Growth.expected" then some (F_Growth_expected c).runG
  else if f = "Growth.may_jump" then some (F_Growth_may_jump c).runG
  else if f = "Growth.take" then some (F_Growth_take c).runG
  else if f = "Growth.taps" then some (F_Growth_taps c).runG
  else if f = "Growth._corrected" then some (F_Growth__corrected c).runG
  else if f = "grown" then some (F_grown c).runN
  else if f = "least_length" then some (F_least_length c).run
  else if f = "shortest" then some (F_shortest c).run
  else if f = "all_shortest" then some (F_all_shortest c).run
  else if f = "lower_bound" then some (F_lower_bound c).run
  else if f = "_check" then some (F__check c).run
  else if f = "_changed" then some (F__changed c).run
  else if f = "_weights" then some (F__weights c).runG
  else if f = "profile" then some (F_profile c).run
  else if f = "_law_taken" then some (F__law_taken c).run
  else if f = "_law_pick" then some (F__law_pick c).run
  else if f = "_law_prime" then some (F__law_prime c).run
  else if f = "_law_alike" then some (F__law_alike c).run
  else if f = "_law_are_numbers" then some (F__law_are_numbers c).run
  else if f = "law" then some (F_law c).run
  else if f = "Growth" then some (c "Growth.__init__")
  else if f = "Growth.__init__" then some newG
  else none
def run : Nat → Call
  | 0 => fun _ _ _ => none
  | n + 1 => fun f r ds => match tbl (run n) f with
    | some F => F r ds
    | none => none
theorem run_Growth : ∀ n, run n "Growth" = (fun _ _ => none) ∨ (2 ≤ n ∧ run n "Growth" = newG)
  | 0 => .inl rfl
  | 1 => .inl (by
    funext r ds
    simp [run, tbl])
  | n + 2 => .inr ⟨by omega, by
    funext r ds
    simp [run, tbl]⟩
theorem run_new (n : Nat) : run (n + 2) "Growth" = newG := by
  funext r ds
  simp [run, tbl]
theorem run_power_of (n : Nat) : run (n + 1) "power_of" = (F_power_of (run n)).run := by
  funext r ds
  simp [run, tbl]
theorem go_power_of (n : Nat) (x0 : D) (x1 : D) {o : Out} {δ : Env} {r : Res} (h : G_power_of (run n) [.dat x0, .dat x1, .un, .un] = some (o, δ)) (ho : EV.outR o = some r) : run (n + 1) "power_of" none [x0, x1] = some (r, none) := by
  rw [run_power_of]
  exact EV.fn_v rfl rfl rfl h ho
theorem run_inverse (n : Nat) : run (n + 1) "inverse" = (F_inverse (run n)).run := by
  funext r ds
  simp [run, tbl]
theorem go_inverse (n : Nat) (x0 : D) (x1 : D) {o : Out} {δ : Env} {r : Res} (h : G_inverse (run n) [.dat x0, .dat x1, .un] = some (o, δ)) (ho : EV.outR o = some r) : run (n + 1) "inverse" none [x0, x1] = some (r, none) := by
  rw [run_inverse]
  exact EV.fn_v rfl rfl rfl h ho
theorem run_is_between (n : Nat) : run (n + 1) "is_between" = (F_is_between (run n)).run := by
  funext r ds
  simp [run, tbl]
theorem go_is_between (n : Nat) (x0 : D) (x1 : D) (x2 : D) {o : Out} {δ : Env} {r : Res} (h : G_is_between (run n) [.dat x0, .dat x1, .dat x2] = some (o, δ)) (ho : EV.outR o = some r) : run (n + 1) "is_between" none [x0, x1, x2] = some (r, none) := by
  rw [run_is_between]
  exact EV.fn_v rfl rfl rfl h ho
theorem run_are_numbers (n : Nat) : run (n + 1) "are_numbers" = (F_are_numbers (run n)).run := by
  funext r ds
  simp [run, tbl]
theorem go_are_numbers (n : Nat) (x0 : D) (x1 : D) (x2 : D) {o : Out} {δ : Env} {r : Res} (h : G_are_numbers (run n) [.dat x0, .dat x1, .dat x2, .un] = some (o, δ)) (ho : EV.outR o = some r) : run (n + 1) "are_numbers" none [x0, x1, x2] = some (r, none) := by
  rw [run_are_numbers]
  exact EV.fn_v rfl rfl rfl h ho
theorem run_check_prime (n : Nat) : run (n + 1) "check_prime" = (F_check_prime (run n)).run := by
  funext r ds
  simp [run, tbl]
theorem go_check_prime (n : Nat) (x0 : D) {o : Out} {δ : Env} {r : Res} (h : G_check_prime (run n) [.dat x0] = some (o, δ)) (ho : EV.outR o = some r) : run (n + 1) "check_prime" none [x0] = some (r, none) := by
  rw [run_check_prime]
  exact EV.fn_v rfl rfl rfl h ho
theorem run_check_number (n : Nat) : run (n + 1) "check_number" = (F_check_number (run n)).run := by
  funext r ds
  simp [run, tbl]
theorem go_check_number (n : Nat) (x0 : D) (x1 : D) (x2 : D) {o : Out} {δ : Env} {r : Res} (h : G_check_number (run n) [.dat x0, .dat x1, .dat x2] = some (o, δ)) (ho : EV.outR o = some r) : run (n + 1) "check_number" none [x0, x1, x2] = some (r, none) := by
  rw [run_check_number]
  exact EV.fn_v rfl rfl rfl h ho
theorem run_check_row (n : Nat) : run (n + 1) "check_row" = (F_check_row (run n)).run := by
  funext r ds
  simp [run, tbl]
theorem go_check_row (n : Nat) (x0 : D) (x1 : D) {o : Out} {δ : Env} {r : Res} (h : G_check_row (run n) [.dat x0, .dat x1] = some (o, δ)) (ho : EV.outR o = some r) : run (n + 1) "check_row" none [x0, x1] = some (r, none) := by
  rw [run_check_row]
  exact EV.fn_v rfl rfl rfl h ho
theorem run_taps_of_low (n : Nat) : run (n + 1) "taps_of_low" = (F_taps_of_low (run n)).run := by
  funext r ds
  simp [run, tbl]
theorem go_taps_of_low (n : Nat) (x0 : D) (x1 : D) {o : Out} {δ : Env} {r : Res} (h : G_taps_of_low (run n) [.dat x0, .dat x1, .un] = some (o, δ)) (ho : EV.outR o = some r) : run (n + 1) "taps_of_low" none [x0, x1] = some (r, none) := by
  rw [run_taps_of_low]
  exact EV.fn_v rfl rfl rfl h ho
theorem run_Growth_expected (n : Nat) : run (n + 1) "Growth.expected" = (F_Growth_expected (run n)).runG := by
  funext r ds
  simp [run, tbl]
theorem go_Growth_expected (n : Nat) (fs : List D) {o : Out} {δ : Env} {r : Res} {gs : List D} (h : G_Growth_expected (run n) [.pob fs, .un, .un, .un] = some (o, δ)) (ho : EV.outR o = some r) (h0 : δ[0]? = some (.pob gs)) : run (n + 1) "Growth.expected" (some fs) [] = some (r, some gs) := by
  rw [run_Growth_expected]
  exact EV.fn_g rfl rfl h ho h0
theorem run_Growth_may_jump (n : Nat) : run (n + 1) "Growth.may_jump" = (F_Growth_may_jump (run n)).runG := by
  funext r ds
  simp [run, tbl]
theorem go_Growth_may_jump (n : Nat) (fs : List D) {o : Out} {δ : Env} {r : Res} {gs : List D} (h : G_Growth_may_jump (run n) [.pob fs] = some (o, δ)) (ho : EV.outR o = some r) (h0 : δ[0]? = some (.pob gs)) : run (n + 1) "Growth.may_jump" (some fs) [] = some (r, some gs) := by
  rw [run_Growth_may_jump]
  exact EV.fn_g rfl rfl h ho h0
theorem run_Growth_take (n : Nat) : run (n + 1) "Growth.take" = (F_Growth_take (run n)).runG := by
  funext r ds
  simp [run, tbl]
theorem go_Growth_take (n : Nat) (fs : List D) (x1 : D) {o : Out} {δ : Env} {r : Res} {gs : List D} (h : G_Growth_take (run n) [.pob fs, .dat x1, .un, .un, .un, .un, .un] = some (o, δ)) (ho : EV.outR o = some r) (h0 : δ[0]? = some (.pob gs)) : run (n + 1) "Growth.take" (some fs) [x1] = some (r, some gs) := by
  rw [run_Growth_take]
  exact EV.fn_g rfl rfl h ho h0
theorem run_Growth_taps (n : Nat) : run (n + 1) "Growth.taps" = (F_Growth_taps (run n)).runG := by
  funext r ds
  simp [run, tbl]
theorem go_Growth_taps (n : Nat) (fs : List D) {o : Out} {δ : Env} {r : Res} {gs : List D} (h : G_Growth_taps (run n) [.pob fs] = some (o, δ)) (ho : EV.outR o = some r) (h0 : δ[0]? = some (.pob gs)) : run (n + 1) "Growth.taps" (some fs) [] = some (r, some gs) := by
  rw [run_Growth_taps]
  exact EV.fn_g rfl rfl h ho h0
theorem run_Growth__corrected (n : Nat) : run (n + 1) "Growth._corrected" = (F_Growth__corrected (run n)).runG := by
  funext r ds
  simp [run, tbl]
theorem go_Growth__corrected (n : Nat) (fs : List D) (x1 : D) {o : Out} {δ : Env} {r : Res} {gs : List D} (h : G_Growth__corrected (run n) [.pob fs, .dat x1, .un, .un, .un] = some (o, δ)) (ho : EV.outR o = some r) (h0 : δ[0]? = some (.pob gs)) : run (n + 1) "Growth._corrected" (some fs) [x1] = some (r, some gs) := by
  rw [run_Growth__corrected]
  exact EV.fn_g rfl rfl h ho h0
theorem run_grown (n : Nat) : run (n + 1) "grown" = (F_grown (run n)).runN := by
  funext r ds
  simp [run, tbl]
theorem go_grown (n : Nat) (x0 : D) (x1 : D) {i : Nat} {δ : Env} {fs : List D} (h : G_grown (run n) [.dat x0, .dat x1, .un, .un] = some (.ro i, δ)) (h0 : δ[i]? = some (.obj fs)) : run (n + 1) "grown" none [x0, x1] = some (.dat .none, some fs) := by
  rw [run_grown]
  exact EV.fn_n rfl rfl h h0
theorem run_least_length (n : Nat) : run (n + 1) "least_length" = (F_least_length (run n)).run := by
  funext r ds
  simp [run, tbl]
theorem go_least_length (n : Nat) (x0 : D) (x1 : D) {o : Out} {δ : Env} {r : Res} (h : G_least_length (run n) [.dat x0, .dat x1] = some (o, δ)) (ho : EV.outR o = some r) : run (n + 1) "least_length" none [x0, x1] = some (r, none) := by
  rw [run_least_length]
  exact EV.fn_v rfl rfl rfl h ho
theorem run_shortest (n : Nat) : run (n + 1) "shortest" = (F_shortest (run n)).run := by
  funext r ds
  simp [run, tbl]
theorem go_shortest (n : Nat) (x0 : D) (x1 : D) {o : Out} {δ : Env} {r : Res} (h : G_shortest (run n) [.dat x0, .dat x1] = some (o, δ)) (ho : EV.outR o = some r) : run (n + 1) "shortest" none [x0, x1] = some (r, none) := by
  rw [run_shortest]
  exact EV.fn_v rfl rfl rfl h ho
theorem run_all_shortest (n : Nat) : run (n + 1) "all_shortest" = (F_all_shortest (run n)).run := by
  funext r ds
  simp [run, tbl]
theorem go_all_shortest (n : Nat) (x0 : D) (x1 : D) {o : Out} {δ : Env} {r : Res} (h : G_all_shortest (run n) [.dat x0, .dat x1, .un, .un, .un, .un, .un, .un, .un] = some (o, δ)) (ho : EV.outR o = some r) : run (n + 1) "all_shortest" none [x0, x1] = some (r, none) := by
  rw [run_all_shortest]
  exact EV.fn_v rfl rfl rfl h ho
theorem run_lower_bound (n : Nat) : run (n + 1) "lower_bound" = (F_lower_bound (run n)).run := by
  funext r ds
  simp [run, tbl]
theorem go_lower_bound (n : Nat) (x0 : D) (x1 : D) (x2 : D) {o : Out} {δ : Env} {r : Res} (h : G_lower_bound (run n) [.dat x0, .dat x1, .dat x2, .un, .un] = some (o, δ)) (ho : EV.outR o = some r) : run (n + 1) "lower_bound" none [x0, x1, x2] = some (r, none) := by
  rw [run_lower_bound]
  exact EV.fn_v rfl rfl rfl h ho
theorem run__check (n : Nat) : run (n + 1) "_check" = (F__check (run n)).run := by
  funext r ds
  simp [run, tbl]
theorem go__check (n : Nat) (x0 : D) (x1 : D) {o : Out} {δ : Env} {r : Res} (h : G__check (run n) [.dat x0, .dat x1] = some (o, δ)) (ho : EV.outR o = some r) : run (n + 1) "_check" none [x0, x1] = some (r, none) := by
  rw [run__check]
  exact EV.fn_v rfl rfl rfl h ho
theorem run__changed (n : Nat) : run (n + 1) "_changed" = (F__changed (run n)).run := by
  funext r ds
  simp [run, tbl]
theorem go__changed (n : Nat) (x0 : D) (x1 : D) (x2 : D) (x3 : D) {o : Out} {δ : Env} {r : Res} (h : G__changed (run n) [.dat x0, .dat x1, .dat x2, .dat x3, .un, .un] = some (o, δ)) (ho : EV.outR o = some r) : run (n + 1) "_changed" none [x0, x1, x2, x3] = some (r, none) := by
  rw [run__changed]
  exact EV.fn_v rfl rfl rfl h ho
theorem run__weights (n : Nat) : run (n + 1) "_weights" = (F__weights (run n)).runG := by
  funext r ds
  simp [run, tbl]
theorem go__weights (n : Nat) (fs : List D) (x1 : D) (x2 : D) {o : Out} {δ : Env} {r : Res} {gs : List D} (h : G__weights (run n) [.pob fs, .dat x1, .dat x2, .un, .un, .un, .un] = some (o, δ)) (ho : EV.outR o = some r) (h0 : δ[0]? = some (.pob gs)) : run (n + 1) "_weights" (some fs) [x1, x2] = some (r, some gs) := by
  rw [run__weights]
  exact EV.fn_g rfl rfl h ho h0
theorem run_profile (n : Nat) : run (n + 1) "profile" = (F_profile (run n)).run := by
  funext r ds
  simp [run, tbl]
theorem go_profile (n : Nat) (x0 : D) (x1 : D) {o : Out} {δ : Env} {r : Res} (h : G_profile (run n) [.dat x0, .dat x1, .un, .un, .un] = some (o, δ)) (ho : EV.outR o = some r) : run (n + 1) "profile" none [x0, x1] = some (r, none) := by
  rw [run_profile]
  exact EV.fn_v rfl rfl rfl h ho
theorem run__law_taken (n : Nat) : run (n + 1) "_law_taken" = (F__law_taken (run n)).run := by
  funext r ds
  simp [run, tbl]
theorem go__law_taken (n : Nat) (xs : List D) (x1 : D) {o : Out} {δ : Env} {r : Res} {ys : List D} (h : G__law_taken (run n) [.prm xs, .dat x1, .un, .un] = some (o, δ)) (ho : EV.outR o = some r) (h0 : δ[0]? = some (.prm ys)) : run (n + 1) "_law_taken" (some xs) [x1] = some (r, some ys) := by
  rw [run__law_taken]
  exact EV.fn_r rfl rfl rfl h ho h0
theorem run__law_pick (n : Nat) : run (n + 1) "_law_pick" = (F__law_pick (run n)).run := by
  funext r ds
  simp [run, tbl]
theorem go__law_pick (n : Nat) (xs : List D) (x1 : D) {o : Out} {δ : Env} {r : Res} {ys : List D} (h : G__law_pick (run n) [.prm xs, .dat x1] = some (o, δ)) (ho : EV.outR o = some r) (h0 : δ[0]? = some (.prm ys)) : run (n + 1) "_law_pick" (some xs) [x1] = some (r, some ys) := by
  rw [run__law_pick]
  exact EV.fn_r rfl rfl rfl h ho h0
theorem run__law_prime (n : Nat) : run (n + 1) "_law_prime" = (F__law_prime (run n)).run := by
  funext r ds
  simp [run, tbl]
theorem go__law_prime (n : Nat) (xs : List D) {o : Out} {δ : Env} {r : Res} {ys : List D} (h : G__law_prime (run n) [.prm xs] = some (o, δ)) (ho : EV.outR o = some r) (h0 : δ[0]? = some (.prm ys)) : run (n + 1) "_law_prime" (some xs) [] = some (r, some ys) := by
  rw [run__law_prime]
  exact EV.fn_r rfl rfl rfl h ho h0
theorem run__law_alike (n : Nat) : run (n + 1) "_law_alike" = (F__law_alike (run n)).run := by
  funext r ds
  simp [run, tbl]
theorem go__law_alike (n : Nat) (x0 : D) (x1 : D) {o : Out} {δ : Env} {r : Res} (h : G__law_alike (run n) [.dat x0, .dat x1, .un] = some (o, δ)) (ho : EV.outR o = some r) : run (n + 1) "_law_alike" none [x0, x1] = some (r, none) := by
  rw [run__law_alike]
  exact EV.fn_v rfl rfl rfl h ho
theorem run__law_are_numbers (n : Nat) : run (n + 1) "_law_are_numbers" = (F__law_are_numbers (run n)).run := by
  funext r ds
  simp [run, tbl]
theorem go__law_are_numbers (n : Nat) (x0 : D) (x1 : D) (x2 : D) {o : Out} {δ : Env} {r : Res} (h : G__law_are_numbers (run n) [.dat x0, .dat x1, .dat x2, .un, .un] = some (o, δ)) (ho : EV.outR o = some r) : run (n + 1) "_law_are_numbers" none [x0, x1, x2] = some (r, none) := by
  rw [run__law_are_numbers]
  exact EV.fn_v rfl rfl rfl h ho
theorem run_law (n : Nat) : run (n + 1) "law" = (F_law (run n)).run := by
  funext r ds
  simp [run, tbl]
theorem go_law (n : Nat) (x0 : D) {o : Out} {δ : Env} {r : Res} (h : G_law (run n) [.dat x0, .un, .un, .un, .un, .un, .un, .un, .un, .un, .un, .un, .un, .un] = some (o, δ)) (ho : EV.outR o = some r) : run (n + 1) "law" none [x0] = some (r, none) := by
  rw [run_law]
  exact EV.fn_v rfl rfl rfl h ho
end IPL
end
section
set_option Elab.async false
set_option linter.all false
set_option maxRecDepth 100000
set_option maxHeartbeats 1000000
namespace IPL
open PySem PySem.Spec PyProof.Rows L2 IP
def topS (i : Nat) : Stmt := PySem.Challenge.pw_taprows_k18_known_rows.main.body.getD i (.Pass ⟨0, 0, 0, 0⟩)
theorem b_all : bootBuiltins "all" = some (.builtin "all") := by decide +kernel
theorem b_bool : bootBuiltins "bool" = some (.type "bool") := by decide +kernel
theorem b_int : bootBuiltins "int" = some (.type "int") := by decide +kernel
theorem b_isinstance : bootBuiltins "isinstance" = some (.builtin "isinstance") := by decide +kernel
theorem b_len : bootBuiltins "len" = some (.builtin "len") := by decide +kernel
theorem b_list : bootBuiltins "list" = some (.type "list") := by decide +kernel
theorem b_max : bootBuiltins "max" = some (.builtin "max") := by decide +kernel
theorem b_sorted : bootBuiltins "sorted" = some (.builtin "sorted") := by decide +kernel
theorem b_str : bootBuiltins "str" = some (.type "str") := by decide +kernel
theorem b_sum : bootBuiltins "sum" = some (.builtin "sum") := by decide +kernel
theorem b_tuple : bootBuiltins "tuple" = some (.type "tuple") := by decide +kernel
abbrev N_power_of : List Str := ["base", "exponent", "result", "place"]
abbrev P_power_of : List Str := ["base", "exponent"]
theorem sc_power_of : FnScope N_power_of P_power_of (defScope (topS 7)) := ⟨rfl, rfl, rfl, by decide +kernel, rfl, by decide +kernel, by decide +kernel⟩
abbrev N_inverse : List Str := ["prime", "number", "other"]
abbrev P_inverse : List Str := ["prime", "number"]
theorem sc_inverse : FnScope N_inverse P_inverse (defScope (topS 8)) := ⟨rfl, rfl, rfl, by decide +kernel, rfl, by decide +kernel, by decide +kernel⟩
abbrev N_is_between : List Str := ["value", "least", "most"]
abbrev P_is_between : List Str := ["value", "least", "most"]
theorem sc_is_between : FnScope N_is_between P_is_between (defScope (topS 13)) := ⟨rfl, rfl, rfl, by decide +kernel, rfl, by decide +kernel, by decide +kernel⟩
abbrev N_are_numbers : List Str := ["prime", "value", "most", "number"]
abbrev P_are_numbers : List Str := ["prime", "value", "most"]
theorem sc_are_numbers : FnScope N_are_numbers P_are_numbers (defScope (topS 14)) := ⟨rfl, rfl, rfl, by decide +kernel, rfl, by decide +kernel, by decide +kernel⟩
abbrev N_check_prime : List Str := ["value"]
abbrev P_check_prime : List Str := ["value"]
theorem sc_check_prime : FnScope N_check_prime P_check_prime (defScope (topS 15)) := ⟨rfl, rfl, rfl, by decide +kernel, rfl, by decide +kernel, by decide +kernel⟩
abbrev N_check_number : List Str := ["value", "least", "most"]
abbrev P_check_number : List Str := ["value", "least", "most"]
theorem sc_check_number : FnScope N_check_number P_check_number (defScope (topS 16)) := ⟨rfl, rfl, rfl, by decide +kernel, rfl, by decide +kernel, by decide +kernel⟩
abbrev N_check_row : List Str := ["prime", "value"]
abbrev P_check_row : List Str := ["prime", "value"]
theorem sc_check_row : FnScope N_check_row P_check_row (defScope (topS 17)) := ⟨rfl, rfl, rfl, by decide +kernel, rfl, by decide +kernel, by decide +kernel⟩
abbrev N_taps_of_low : List Str := ["prime", "low", "number"]
abbrev P_taps_of_low : List Str := ["prime", "low"]
theorem sc_taps_of_low : FnScope N_taps_of_low P_taps_of_low (defScope (topS 19)) := ⟨rfl, rfl, rfl, by decide +kernel, rfl, by decide +kernel, by decide +kernel⟩
abbrev N_Growth_expected : List Str := ["self", "products", "back", "number"]
abbrev P_Growth_expected : List Str := ["self"]
theorem sc_Growth_expected : FnScope N_Growth_expected P_Growth_expected (defScope (inClass (topS 21) 1)) := ⟨rfl, rfl, rfl, by decide +kernel, rfl, by decide +kernel, by decide +kernel⟩
theorem gf_Growth_expected : gFree "expected" := by unfold gFree; decide +kernel
abbrev N_Growth_may_jump : List Str := ["self"]
abbrev P_Growth_may_jump : List Str := ["self"]
theorem sc_Growth_may_jump : FnScope N_Growth_may_jump P_Growth_may_jump (defScope (inClass (topS 21) 2)) := ⟨rfl, rfl, rfl, by decide +kernel, rfl, by decide +kernel, by decide +kernel⟩
theorem gf_Growth_may_jump : gFree "may_jump" := by unfold gFree; decide +kernel
abbrev N_Growth_take : List Str := ["self", "number", "missed", "jumps", "ahead", "scale", "coefficient"]
abbrev P_Growth_take : List Str := ["self", "number"]
theorem sc_Growth_take : FnScope N_Growth_take P_Growth_take (defScope (inClass (topS 21) 3)) := ⟨rfl, rfl, rfl, by decide +kernel, rfl, by decide +kernel, by decide +kernel⟩
theorem gf_Growth_take : gFree "take" := by unfold gFree; decide +kernel
abbrev N_Growth_taps : List Str := ["self"]
abbrev P_Growth_taps : List Str := ["self"]
theorem sc_Growth_taps : FnScope N_Growth_taps P_Growth_taps (defScope (inClass (topS 21) 4)) := ⟨rfl, rfl, rfl, by decide +kernel, rfl, by decide +kernel, by decide +kernel⟩
theorem gf_Growth_taps : gFree "taps" := by unfold gFree; decide +kernel
abbrev N_Growth__corrected : List Str := ["self", "missed", "low", "at", "number"]
abbrev P_Growth__corrected : List Str := ["self", "missed"]
theorem sc_Growth__corrected : FnScope N_Growth__corrected P_Growth__corrected (defScope (inClass (topS 21) 5)) := ⟨rfl, rfl, rfl, by decide +kernel, rfl, by decide +kernel, by decide +kernel⟩
theorem gf_Growth__corrected : gFree "_corrected" := by unfold gFree; decide +kernel
abbrev N_grown : List Str := ["prime", "row", "growth", "number"]
abbrev P_grown : List Str := ["prime", "row"]
theorem sc_grown : FnScope N_grown P_grown (defScope (topS 22)) := ⟨rfl, rfl, rfl, by decide +kernel, rfl, by decide +kernel, by decide +kernel⟩
abbrev N_least_length : List Str := ["prime", "row"]
abbrev P_least_length : List Str := ["prime", "row"]
theorem sc_least_length : FnScope N_least_length P_least_length (defScope (topS 24)) := ⟨rfl, rfl, rfl, by decide +kernel, rfl, by decide +kernel, by decide +kernel⟩
abbrev N_shortest : List Str := ["prime", "row"]
abbrev P_shortest : List Str := ["prime", "row"]
theorem sc_shortest : FnScope N_shortest P_shortest (defScope (topS 25)) := ⟨rfl, rfl, rfl, by decide +kernel, rfl, by decide +kernel, by decide +kernel⟩
abbrev N_all_shortest : List Str := ["prime", "row", "growth", "free", "found", "place", "change", "taps", "times"]
abbrev P_all_shortest : List Str := ["prime", "row"]
theorem sc_all_shortest : FnScope N_all_shortest P_all_shortest (defScope (topS 26)) := ⟨rfl, rfl, rfl, by decide +kernel, rfl, by decide +kernel, by decide +kernel⟩
abbrev N_lower_bound : List Str := ["prime", "row", "length", "growth", "number"]
abbrev P_lower_bound : List Str := ["prime", "row", "length"]
theorem sc_lower_bound : FnScope N_lower_bound P_lower_bound (defScope (topS 27)) := ⟨rfl, rfl, rfl, by decide +kernel, rfl, by decide +kernel, by decide +kernel⟩
abbrev N__check : List Str := ["prime", "row"]
abbrev P__check : List Str := ["prime", "row"]
theorem sc__check : FnScope N__check P__check (defScope (topS 28)) := ⟨rfl, rfl, rfl, by decide +kernel, rfl, by decide +kernel, by decide +kernel⟩
abbrev N__changed : List Str := ["prime", "taps", "times", "change", "tap", "number"]
abbrev P__changed : List Str := ["prime", "taps", "times", "change"]
theorem sc__changed : FnScope N__changed P__changed (defScope (topS 29)) := ⟨rfl, rfl, rfl, by decide +kernel, rfl, by decide +kernel, by decide +kernel⟩
abbrev N__weights : List Str := ["growth", "length", "size", "weights", "jump", "back", "number"]
abbrev P__weights : List Str := ["growth", "length", "size"]
theorem sc__weights : FnScope N__weights P__weights (defScope (topS 30)) := ⟨rfl, rfl, rfl, by decide +kernel, rfl, by decide +kernel, by decide +kernel⟩
abbrev N_profile : List Str := ["prime", "row", "growth", "lengths", "number"]
abbrev P_profile : List Str := ["prime", "row"]
theorem sc_profile : FnScope N_profile P_profile (defScope (topS 32)) := ⟨rfl, rfl, rfl, by decide +kernel, rfl, by decide +kernel, by decide +kernel⟩
abbrev N__law_taken : List Str := ["row", "many", "found", "cell"]
abbrev P__law_taken : List Str := ["row", "many"]
theorem sc__law_taken : FnScope N__law_taken P__law_taken (defScope (topS 34)) := ⟨rfl, rfl, rfl, by decide +kernel, rfl, by decide +kernel, by decide +kernel⟩
abbrev N__law_pick : List Str := ["row", "things"]
abbrev P__law_pick : List Str := ["row", "things"]
theorem sc__law_pick : FnScope N__law_pick P__law_pick (defScope (topS 35)) := ⟨rfl, rfl, rfl, by decide +kernel, rfl, by decide +kernel, by decide +kernel⟩
abbrev N__law_prime : List Str := ["row"]
abbrev P__law_prime : List Str := ["row"]
theorem sc__law_prime : FnScope N__law_prime P__law_prime (defScope (topS 36)) := ⟨rfl, rfl, rfl, by decide +kernel, rfl, by decide +kernel, by decide +kernel⟩
abbrev N__law_alike : List Str := ["found", "due", "k"]
abbrev P__law_alike : List Str := ["found", "due"]
theorem sc__law_alike : FnScope N__law_alike P__law_alike (defScope (topS 37)) := ⟨rfl, rfl, rfl, by decide +kernel, rfl, by decide +kernel, by decide +kernel⟩
abbrev N__law_are_numbers : List Str := ["prime", "value", "many", "wrong", "entry"]
abbrev P__law_are_numbers : List Str := ["prime", "value", "many"]
theorem sc__law_are_numbers : FnScope N__law_are_numbers P__law_are_numbers (defScope (topS 38)) := ⟨rfl, rfl, rfl, by decide +kernel, rfl, by decide +kernel, by decide +kernel⟩
abbrev N_law : List Str := ["script", "row", "prime", "size", "number", "late", "told", "ratio", "at", "step", "due", "squares", "least", "ring"]
abbrev P_law : List Str := ["script"]
theorem sc_law : FnScope N_law P_law (defScope (topS 39)) := ⟨rfl, rfl, rfl, by decide +kernel, rfl, by decide +kernel, by decide +kernel⟩
theorem sc_init : FnScope ["self", "prime"] ["self", "prime"] (defScope (inClass (topS 21) 0)) := ⟨rfl, rfl, rfl, by decide +kernel, rfl, by decide +kernel, by decide +kernel⟩
structure Tx (P : Program) (w : World) (base : Heap) (K : PySem.W.Frag) (mg : Str → Option Value) (fd : Nat → FuncData) : Prop where
  m_all : mg "all" = none
  m_bool : mg "bool" = none
  m_enumerate : mg "enumerate" = none
  m_int : mg "int" = none
  m_isinstance : mg "isinstance" = none
  m_len : mg "len" = none
  m_list : mg "list" = none
  m_max : mg "max" = none
  m_range : mg "range" = none
  m_reversed : mg "reversed" = none
  m_sorted : mg "sorted" = none
  m_str : mg "str" = none
  m_sum : mg "sum" = none
  m_tuple : mg "tuple" = none
  m_zip : mg "zip" = none
  c_MOST_FOUND : ∃ t, mg "MOST_FOUND" = some (.int 2000 t)
  c_MOST_NUMBERS : ∃ t, mg "MOST_NUMBERS" = some (.int 400 t)
  g_PRIMES : mg "PRIMES" = some (.ref (He.ga K "PRIMES"))
  t_PRIMES : ∀ H, SqT K H (He.ga K "PRIMES") (([2, 3, 5, 7] : List Int).map V.int)
  g_Growth : mg "Growth" = some (.ref (He.ga K "Growth"))
  cls_ : Cls K (GC K)
  no_0 : NoAttr K (GC K) "prime"
  no_1 : NoAttr K (GC K) "row"
  no_2 : NoAttr K (GC K) "length"
  no_3 : NoAttr K (GC K) "low"
  no_4 : NoAttr K (GC K) "older"
  no_5 : NoAttr K (GC K) "shift"
  mkG : Mk K (GC K) (He.ma K (GC K) "__init__")
  m_Growth_expected : Meth K (GC K) "expected" (He.ma K (GC K) "expected")
  m_Growth_may_jump : Meth K (GC K) "may_jump" (He.ma K (GC K) "may_jump")
  m_Growth_take : Meth K (GC K) "take" (He.ma K (GC K) "take")
  m_Growth_taps : Meth K (GC K) "taps" (He.ma K (GC K) "taps")
  m_Growth__corrected : Meth K (GC K) "_corrected" (He.ma K (GC K) "_corrected")
  i_init : ∃ fi, FnOk P w K mg base CX0 1 (He.ma K (GC K) "__init__") fi ["self", "prime"] (spInit K) ∧ Binds K fi ["self", "prime"] []
  g_power_of : mg "power_of" = some (.ref (He.ga K "power_of"))
  f_power_of : FunD K "power_of" "power_of" (defArgs (topS 7)) (defBody (topS 7)) (defScope (topS 7)) [] [] (He.ga K "power_of") (fd 0)
  k_power_of : PySem.W.keepIn K (.ref (He.ga K "power_of")) = true
  b_power_of : Binds K (fd 0) P_power_of []
  g_inverse : mg "inverse" = some (.ref (He.ga K "inverse"))
  f_inverse : FunD K "inverse" "inverse" (defArgs (topS 8)) (defBody (topS 8)) (defScope (topS 8)) [] [] (He.ga K "inverse") (fd 1)
  k_inverse : PySem.W.keepIn K (.ref (He.ga K "inverse")) = true
  b_inverse : Binds K (fd 1) P_inverse []
  g_is_between : mg "is_between" = some (.ref (He.ga K "is_between"))
  f_is_between : FunD K "is_between" "is_between" (defArgs (topS 13)) (defBody (topS 13)) (defScope (topS 13)) [] [] (He.ga K "is_between") (fd 2)
  k_is_between : PySem.W.keepIn K (.ref (He.ga K "is_between")) = true
  b_is_between : Binds K (fd 2) P_is_between []
  g_are_numbers : mg "are_numbers" = some (.ref (He.ga K "are_numbers"))
  f_are_numbers : FunD K "are_numbers" "are_numbers" (defArgs (topS 14)) (defBody (topS 14)) (defScope (topS 14)) [] [] (He.ga K "are_numbers") (fd 3)
  k_are_numbers : PySem.W.keepIn K (.ref (He.ga K "are_numbers")) = true
  b_are_numbers : Binds K (fd 3) P_are_numbers []
  g_check_prime : mg "check_prime" = some (.ref (He.ga K "check_prime"))
  f_check_prime : FunD K "check_prime" "check_prime" (defArgs (topS 15)) (defBody (topS 15)) (defScope (topS 15)) [] [] (He.ga K "check_prime") (fd 4)
  k_check_prime : PySem.W.keepIn K (.ref (He.ga K "check_prime")) = true
  b_check_prime : Binds K (fd 4) P_check_prime []
  g_check_number : mg "check_number" = some (.ref (He.ga K "check_number"))
  f_check_number : FunD K "check_number" "check_number" (defArgs (topS 16)) (defBody (topS 16)) (defScope (topS 16)) [] [] (He.ga K "check_number") (fd 5)
  k_check_number : PySem.W.keepIn K (.ref (He.ga K "check_number")) = true
  b_check_number : Binds K (fd 5) P_check_number []
  g_check_row : mg "check_row" = some (.ref (He.ga K "check_row"))
  f_check_row : FunD K "check_row" "check_row" (defArgs (topS 17)) (defBody (topS 17)) (defScope (topS 17)) [] [] (He.ga K "check_row") (fd 6)
  k_check_row : PySem.W.keepIn K (.ref (He.ga K "check_row")) = true
  b_check_row : Binds K (fd 6) P_check_row []
  g_taps_of_low : mg "taps_of_low" = some (.ref (He.ga K "taps_of_low"))
  f_taps_of_low : FunD K "taps_of_low" "taps_of_low" (defArgs (topS 19)) (defBody (topS 19)) (defScope (topS 19)) [] [] (He.ga K "taps_of_low") (fd 7)
  k_taps_of_low : PySem.W.keepIn K (.ref (He.ga K "taps_of_low")) = true
  b_taps_of_low : Binds K (fd 7) P_taps_of_low []
  f_Growth_expected : FunD K "expected" "Growth.expected" (defArgs (inClass (topS 21) 1)) (defBody (inClass (topS 21) 1)) (defScope (inClass (topS 21) 1)) [] [] (He.ma K (He.ga K "Growth") "expected") (fd 8)
  k_Growth_expected : PySem.W.keepIn K (.ref (He.ma K (He.ga K "Growth") "expected")) = true
  b_Growth_expected : Binds K (fd 8) P_Growth_expected []
  f_Growth_may_jump : FunD K "may_jump" "Growth.may_jump" (defArgs (inClass (topS 21) 2)) (defBody (inClass (topS 21) 2)) (defScope (inClass (topS 21) 2)) [] [] (He.ma K (He.ga K "Growth") "may_jump") (fd 9)
  k_Growth_may_jump : PySem.W.keepIn K (.ref (He.ma K (He.ga K "Growth") "may_jump")) = true
  b_Growth_may_jump : Binds K (fd 9) P_Growth_may_jump []
  f_Growth_take : FunD K "take" "Growth.take" (defArgs (inClass (topS 21) 3)) (defBody (inClass (topS 21) 3)) (defScope (inClass (topS 21) 3)) [] [] (He.ma K (He.ga K "Growth") "take") (fd 10)
  k_Growth_take : PySem.W.keepIn K (.ref (He.ma K (He.ga K "Growth") "take")) = true
  b_Growth_take : Binds K (fd 10) P_Growth_take []
  f_Growth_taps : FunD K "taps" "Growth.taps" (defArgs (inClass (topS 21) 4)) (defBody (inClass (topS 21) 4)) (defScope (inClass (topS 21) 4)) [] [] (He.ma K (He.ga K "Growth") "taps") (fd 11)
  k_Growth_taps : PySem.W.keepIn K (.ref (He.ma K (He.ga K "Growth") "taps")) = true
  b_Growth_taps : Binds K (fd 11) P_Growth_taps []
  f_Growth__corrected : FunD K "_corrected" "Growth._corrected" (defArgs (inClass (topS 21) 5)) (defBody (inClass (topS 21) 5)) (defScope (inClass (topS 21) 5)) [] [] (He.ma K (He.ga K "Growth") "_corrected") (fd 12)
  k_Growth__corrected : PySem.W.keepIn K (.ref (He.ma K (He.ga K "Growth") "_corrected")) = true
  b_Growth__corrected : Binds K (fd 12) P_Growth__corrected []
  g_grown : mg "grown" = some (.ref (He.ga K "grown"))
  f_grown : FunD K "grown" "grown" (defArgs (topS 22)) (defBody (topS 22)) (defScope (topS 22)) [] [] (He.ga K "grown") (fd 13)
  k_grown : PySem.W.keepIn K (.ref (He.ga K "grown")) = true
  b_grown : Binds K (fd 13) P_grown []
  g_least_length : mg "least_length" = some (.ref (He.ga K "least_length"))
  f_least_length : FunD K "least_length" "least_length" (defArgs (topS 24)) (defBody (topS 24)) (defScope (topS 24)) [] [] (He.ga K "least_length") (fd 14)
  k_least_length : PySem.W.keepIn K (.ref (He.ga K "least_length")) = true
  b_least_length : Binds K (fd 14) P_least_length []
  g_shortest : mg "shortest" = some (.ref (He.ga K "shortest"))
  f_shortest : FunD K "shortest" "shortest" (defArgs (topS 25)) (defBody (topS 25)) (defScope (topS 25)) [] [] (He.ga K "shortest") (fd 15)
  k_shortest : PySem.W.keepIn K (.ref (He.ga K "shortest")) = true
  b_shortest : Binds K (fd 15) P_shortest []
  g_all_shortest : mg "all_shortest" = some (.ref (He.ga K "all_shortest"))
  f_all_shortest : FunD K "all_shortest" "all_shortest" (defArgs (topS 26)) (defBody (topS 26)) (defScope (topS 26)) [] [] (He.ga K "all_shortest") (fd 16)
  k_all_shortest : PySem.W.keepIn K (.ref (He.ga K "all_shortest")) = true
  b_all_shortest : Binds K (fd 16) P_all_shortest []
  g_lower_bound : mg "lower_bound" = some (.ref (He.ga K "lower_bound"))
  f_lower_bound : FunD K "lower_bound" "lower_bound" (defArgs (topS 27)) (defBody (topS 27)) (defScope (topS 27)) [] [] (He.ga K "lower_bound") (fd 17)
  k_lower_bound : PySem.W.keepIn K (.ref (He.ga K "lower_bound")) = true
  b_lower_bound : Binds K (fd 17) P_lower_bound []
  g__check : mg "_check" = some (.ref (He.ga K "_check"))
  f__check : FunD K "_check" "_check" (defArgs (topS 28)) (defBody (topS 28)) (defScope (topS 28)) [] [] (He.ga K "_check") (fd 18)
  k__check : PySem.W.keepIn K (.ref (He.ga K "_check")) = true
  b__check : Binds K (fd 18) P__check []
  g__changed : mg "_changed" = some (.ref (He.ga K "_changed"))
  f__changed : FunD K "_changed" "_changed" (defArgs (topS 29)) (defBody (topS 29)) (defScope (topS 29)) [] [] (He.ga K "_changed") (fd 19)
  k__changed : PySem.W.keepIn K (.ref (He.ga K "_changed")) = true
  b__changed : Binds K (fd 19) P__changed []
  g__weights : mg "_weights" = some (.ref (He.ga K "_weights"))
  f__weights : FunD K "_weights" "_weights" (defArgs (topS 30)) (defBody (topS 30)) (defScope (topS 30)) [] [] (He.ga K "_weights") (fd 20)
  k__weights : PySem.W.keepIn K (.ref (He.ga K "_weights")) = true
  b__weights : Binds K (fd 20) P__weights []
  g_profile : mg "profile" = some (.ref (He.ga K "profile"))
  f_profile : FunD K "profile" "profile" (defArgs (topS 32)) (defBody (topS 32)) (defScope (topS 32)) [] [] (He.ga K "profile") (fd 21)
  k_profile : PySem.W.keepIn K (.ref (He.ga K "profile")) = true
  b_profile : Binds K (fd 21) P_profile []
  g__law_taken : mg "_law_taken" = some (.ref (He.ga K "_law_taken"))
  f__law_taken : FunD K "_law_taken" "_law_taken" (defArgs (topS 34)) (defBody (topS 34)) (defScope (topS 34)) [] [] (He.ga K "_law_taken") (fd 22)
  k__law_taken : PySem.W.keepIn K (.ref (He.ga K "_law_taken")) = true
  b__law_taken : Binds K (fd 22) P__law_taken []
  g__law_pick : mg "_law_pick" = some (.ref (He.ga K "_law_pick"))
  f__law_pick : FunD K "_law_pick" "_law_pick" (defArgs (topS 35)) (defBody (topS 35)) (defScope (topS 35)) [] [] (He.ga K "_law_pick") (fd 23)
  k__law_pick : PySem.W.keepIn K (.ref (He.ga K "_law_pick")) = true
  b__law_pick : Binds K (fd 23) P__law_pick []
  g__law_prime : mg "_law_prime" = some (.ref (He.ga K "_law_prime"))
  f__law_prime : FunD K "_law_prime" "_law_prime" (defArgs (topS 36)) (defBody (topS 36)) (defScope (topS 36)) [] [] (He.ga K "_law_prime") (fd 24)
  k__law_prime : PySem.W.keepIn K (.ref (He.ga K "_law_prime")) = true
  b__law_prime : Binds K (fd 24) P__law_prime []
  g__law_alike : mg "_law_alike" = some (.ref (He.ga K "_law_alike"))
  f__law_alike : FunD K "_law_alike" "_law_alike" (defArgs (topS 37)) (defBody (topS 37)) (defScope (topS 37)) [] [] (He.ga K "_law_alike") (fd 25)
  k__law_alike : PySem.W.keepIn K (.ref (He.ga K "_law_alike")) = true
  b__law_alike : Binds K (fd 25) P__law_alike []
  g__law_are_numbers : mg "_law_are_numbers" = some (.ref (He.ga K "_law_are_numbers"))
  f__law_are_numbers : FunD K "_law_are_numbers" "_law_are_numbers" (defArgs (topS 38)) (defBody (topS 38)) (defScope (topS 38)) [] [] (He.ga K "_law_are_numbers") (fd 26)
  k__law_are_numbers : PySem.W.keepIn K (.ref (He.ga K "_law_are_numbers")) = true
  b__law_are_numbers : Binds K (fd 26) P__law_are_numbers []
  g_law : mg "law" = some (.ref (He.ga K "law"))
  f_law : FunD K "law" "law" (defArgs (topS 39)) (defBody (topS 39)) (defScope (topS 39)) [] [] (He.ga K "law") (fd 27)
  k_law : PySem.W.keepIn K (.ref (He.ga K "law")) = true
  b_law : Binds K (fd 27) P_law []
theorem Tx.gt {P : Program} {w : World} {base : Heap} {K : PySem.W.Frag} {mg : Str → Option Value} {fd : Nat → FuncData} (T : Tx P w base K mg fd) : GT K := ⟨T.cls_, fun k => match k with
  | 0 => T.no_0
  | 1 => T.no_1
  | 2 => T.no_2
  | 3 => T.no_3
  | 4 => T.no_4
  | _ + 5 => T.no_5⟩
structure Ih (P : Program) (w : World) (K : PySem.W.Frag) (mg : Str → Option Value) (base : Heap) (fd : Nat → FuncData) (n : Nat) : Prop where
  i_power_of : FnOk P w K mg base CX0 n (He.ga K "power_of") (fd 0) P_power_of (spI K (run n "power_of"))
  i_inverse : FnOk P w K mg base CX0 n (He.ga K "inverse") (fd 1) P_inverse (spI K (run n "inverse"))
  i_is_between : FnOk P w K mg base CX0 n (He.ga K "is_between") (fd 2) P_is_between (spI K (run n "is_between"))
  i_are_numbers : FnOk P w K mg base CX0 n (He.ga K "are_numbers") (fd 3) P_are_numbers (spI K (run n "are_numbers"))
  i_check_prime : FnOk P w K mg base CX0 n (He.ga K "check_prime") (fd 4) P_check_prime (spI K (run n "check_prime"))
  i_check_number : FnOk P w K mg base CX0 n (He.ga K "check_number") (fd 5) P_check_number (spI K (run n "check_number"))
  i_check_row : FnOk P w K mg base CX0 n (He.ga K "check_row") (fd 6) P_check_row (spI K (run n "check_row"))
  i_taps_of_low : FnOk P w K mg base CX0 n (He.ga K "taps_of_low") (fd 7) P_taps_of_low (spI K (run n "taps_of_low"))
  i_Growth_expected : FnOk P w K mg base CX0 n (He.ma K (He.ga K "Growth") "expected") (fd 8) P_Growth_expected (spG K (run n "Growth.expected"))
  i_Growth_may_jump : FnOk P w K mg base CX0 n (He.ma K (He.ga K "Growth") "may_jump") (fd 9) P_Growth_may_jump (spG K (run n "Growth.may_jump"))
  i_Growth_take : FnOk P w K mg base CX0 n (He.ma K (He.ga K "Growth") "take") (fd 10) P_Growth_take (spG K (run n "Growth.take"))
  i_Growth_taps : FnOk P w K mg base CX0 n (He.ma K (He.ga K "Growth") "taps") (fd 11) P_Growth_taps (spG K (run n "Growth.taps"))
  i_Growth__corrected : FnOk P w K mg base CX0 n (He.ma K (He.ga K "Growth") "_corrected") (fd 12) P_Growth__corrected (spG K (run n "Growth._corrected"))
  i_grown : FnOk P w K mg base CX0 n (He.ga K "grown") (fd 13) P_grown (spN K (run n "grown"))
  i_least_length : FnOk P w K mg base CX0 n (He.ga K "least_length") (fd 14) P_least_length (spI K (run n "least_length"))
  i_shortest : FnOk P w K mg base CX0 n (He.ga K "shortest") (fd 15) P_shortest (spI K (run n "shortest"))
  i_all_shortest : FnOk P w K mg base CX0 n (He.ga K "all_shortest") (fd 16) P_all_shortest (spI K (run n "all_shortest"))
  i_lower_bound : FnOk P w K mg base CX0 n (He.ga K "lower_bound") (fd 17) P_lower_bound (spI K (run n "lower_bound"))
  i__check : FnOk P w K mg base CX0 n (He.ga K "_check") (fd 18) P__check (spI K (run n "_check"))
  i__changed : FnOk P w K mg base CX0 n (He.ga K "_changed") (fd 19) P__changed (spI K (run n "_changed"))
  i__weights : FnOk P w K mg base CX0 n (He.ga K "_weights") (fd 20) P__weights (spG K (run n "_weights"))
  i_profile : FnOk P w K mg base CX0 n (He.ga K "profile") (fd 21) P_profile (spI K (run n "profile"))
  i__law_taken : FnOk P w K mg base CX0 n (He.ga K "_law_taken") (fd 22) P__law_taken (spI K (run n "_law_taken"))
  i__law_pick : FnOk P w K mg base CX0 n (He.ga K "_law_pick") (fd 23) P__law_pick (spI K (run n "_law_pick"))
  i__law_prime : FnOk P w K mg base CX0 n (He.ga K "_law_prime") (fd 24) P__law_prime (spI K (run n "_law_prime"))
  i__law_alike : FnOk P w K mg base CX0 n (He.ga K "_law_alike") (fd 25) P__law_alike (spI K (run n "_law_alike"))
  i__law_are_numbers : FnOk P w K mg base CX0 n (He.ga K "_law_are_numbers") (fd 26) P__law_are_numbers (spI K (run n "_law_are_numbers"))
  i_law : FnOk P w K mg base CX0 n (He.ga K "law") (fd 27) P_law (spI K (run n "law"))
section
variable {P : Program} {w : World} {K : PySem.W.Frag} {mg : Str → Option Value} {base : Heap} {fd : Nat → FuncData}
theorem ok_init (cl : Cls K (GC K)) (no : ∀ k, NoAttr K (GC K) (gX k)) {fi : FuncData} (F : FunD K "__init__" "Growth.__init__" (defArgs (inClass (topS 21) 0)) (defBody (inClass (topS 21) 0)) (defScope (inClass (topS 21) 0)) [] [] (He.ma K (GC K) "__init__") fi) : FnOk P w K mg base CX0 1 (He.ma K (GC K) "__init__") fi ["self", "prime"] (spInit K) := by
  refine F.ok sc_init (fun vs H Q E h => ?_) (fun cdv A outer s H vs Q E hr h => ?_)
  · obtain ⟨p, dx, v, rfl, _⟩ := h
    rfl
  · obtain ⟨p, dx, v, rfl, hp, k⟩ := h
    refine ⟨_, pss_cons (ps_fld (pv 0) (pv 1) rfl) (pss_cons (ps_fld (pv 0) (pe_lst pa_nil) rfl) (pss_cons (ps_fld (pv 0) pe_int rfl) (pss_cons (ps_fld (pv 0) (pe_lst (pa_cons pe_int pa_nil)) rfl) (pss_cons (ps_fld (pv 0) (pe_lst (pa_cons pe_int pa_nil)) rfl) (pss_one (ps_fld (pv 0) pe_int rfl)))))), ?_⟩
    exact init_read cl no rfl rfl hp k
theorem ok_power_of (T : Tx P w base K mg fd) {n : Nat} (I : Ih P w K mg base fd n) : FnOk P w K mg base CX0 (n + 1) (He.ga K "power_of") (fd 0) P_power_of (spI K (run (n + 1) "power_of")) := by
  have nd := sc_power_of.nd
  rw [run_power_of]
  refine T.f_power_of.ok sc_power_of (fun vs H Q E h => spI_len rfl h) (fun cdv A outer s H vs Q E hr h => ⟨kS K (F_power_of (run n)).body, PSs.nox ?_, fn_read rfl (show (2 : Nat) ≤ 4 by decide) h⟩)
  exact (xb_cons (xs_set (i := 2) nd rfl (by first | exact Or.inl rfl | exact Or.inr rfl) x_int) (xb_cons (x_for PassesOwn.never rfl (xi_revR1 (by rfl) T.m_reversed (by rfl) T.m_range (o_v (x_bits (o_var (i := 1) rfl (by first | exact Or.inl rfl | exact Or.inr (Or.inl rfl) | exact Or.inr (Or.inr rfl)))))) (pg_name (i := 3) nd rfl (by first | exact Or.inl rfl | exact Or.inr rfl)) gs_nm (xb_cons (xs_set (i := 2) nd rfl (by first | exact Or.inl rfl | exact Or.inr rfl) (x_bin op_mulA s_mul (o_var (i := 2) rfl (by first | exact Or.inl rfl | exact Or.inr (Or.inl rfl) | exact Or.inr (Or.inr rfl))) (o_var (i := 2) rfl (by first | exact Or.inl rfl | exact Or.inr (Or.inl rfl) | exact Or.inr (Or.inr rfl))))) (xb_one (xs_if (x_truth (o_v (x_bin op_and s_and (o_v (x_bin op_shr s_shr (o_var (i := 1) rfl (by first | exact Or.inl rfl | exact Or.inr (Or.inl rfl) | exact Or.inr (Or.inr rfl))) (o_var (i := 3) rfl (by first | exact Or.inl rfl | exact Or.inr (Or.inl rfl) | exact Or.inr (Or.inr rfl))))) (o_v x_int))) (fun _ => rfl)) (xb_one (xs_set (i := 2) nd rfl (by first | exact Or.inl rfl | exact Or.inr rfl) (x_bin op_mulA s_mul (o_var (i := 2) rfl (by first | exact Or.inl rfl | exact Or.inr (Or.inl rfl) | exact Or.inr (Or.inr rfl))) (o_var (i := 0) rfl (by first | exact Or.inl rfl | exact Or.inr (Or.inl rfl) | exact Or.inr (Or.inr rfl)))))) xb_nil)))) (xb_one (xs_ret (x_var (i := 2) rfl (by first | exact Or.inl rfl | exact Or.inr (Or.inl rfl) | exact Or.inr (Or.inr rfl)))))))
theorem ok_inverse (T : Tx P w base K mg fd) {n : Nat} (I : Ih P w K mg base fd n) : FnOk P w K mg base CX0 (n + 1) (He.ga K "inverse") (fd 1) P_inverse (spI K (run (n + 1) "inverse")) := by
  have nd := sc_inverse.nd
  rw [run_inverse]
  refine T.f_inverse.ok sc_inverse (fun vs H Q E h => spI_len rfl h) (fun cdv A outer s H vs Q E hr h => ⟨kS K (F_inverse (run n)).body, PSs.nox ?_, fn_read rfl (show (2 : Nat) ≤ 3 by decide) h⟩)
  exact (xb_cons (xs_set (i := 2) nd rfl (by first | exact Or.inl rfl | exact Or.inr rfl) x_int) (xb_cons (x_while PassesOwn.never (x_cmpT (op_neD hr.units) s_ne (o_v (x_bin op_mod s_mod (o_v (x_bin op_mulA s_mul (o_var (i := 1) rfl (by first | exact Or.inl rfl | exact Or.inr (Or.inl rfl) | exact Or.inr (Or.inr rfl))) (o_var (i := 2) rfl (by first | exact Or.inl rfl | exact Or.inr (Or.inl rfl) | exact Or.inr (Or.inr rfl))))) (o_var (i := 0) rfl (by first | exact Or.inl rfl | exact Or.inr (Or.inl rfl) | exact Or.inr (Or.inr rfl))))) (o_v x_int) (nomark _)) (xb_one (xs_aug (i := 2) nd rfl (by first | exact Or.inl rfl | exact Or.inr rfl) (o_v x_int) ip_add))) (xb_one (xs_ret (x_var (i := 2) rfl (by first | exact Or.inl rfl | exact Or.inr (Or.inl rfl) | exact Or.inr (Or.inr rfl)))))))
theorem ok_is_between (T : Tx P w base K mg fd) {n : Nat} (I : Ih P w K mg base fd n) : FnOk P w K mg base CX0 (n + 1) (He.ga K "is_between") (fd 2) P_is_between (spI K (run (n + 1) "is_between")) := by
  have nd := sc_is_between.nd
  rw [run_is_between]
  refine T.f_is_between.ok sc_is_between (fun vs H Q E h => spI_len rfl h) (fun cdv A outer s H vs Q E hr h => ⟨kS K (F_is_between (run n)).body, PSs.nox ?_, fn_read rfl (show (3 : Nat) ≤ 3 by decide) h⟩)
  exact (xb_one (xs_ret (x_andV (x_isi1 (t := .int) (o_var (i := 0) rfl (by first | exact Or.inl rfl | exact Or.inr (Or.inl rfl) | exact Or.inr (Or.inr rfl))) (by rfl) T.m_isinstance b_isinstance (by rfl) T.m_int b_int) (x_andV (x_notV (x_isi1 (t := .bool) (o_var (i := 0) rfl (by first | exact Or.inl rfl | exact Or.inr (Or.inl rfl) | exact Or.inr (Or.inr rfl))) (by rfl) T.m_isinstance b_isinstance (by rfl) T.m_bool b_bool)) (pe_one (x_chain op_le op_le s_le s_le (o_var (i := 1) rfl (by first | exact Or.inl rfl | exact Or.inr (Or.inl rfl) | exact Or.inr (Or.inr rfl))) (o_var (i := 0) rfl (by first | exact Or.inl rfl | exact Or.inr (Or.inl rfl) | exact Or.inr (Or.inr rfl))) (o_var (i := 2) rfl (by first | exact Or.inl rfl | exact Or.inr (Or.inl rfl) | exact Or.inr (Or.inr rfl)))))))))
theorem ok_are_numbers (T : Tx P w base K mg fd) {n : Nat} (I : Ih P w K mg base fd n) : FnOk P w K mg base CX0 (n + 1) (He.ga K "are_numbers") (fd 3) P_are_numbers (spI K (run (n + 1) "are_numbers")) := by
  have nd := sc_are_numbers.nd
  rw [run_are_numbers]
  refine T.f_are_numbers.ok sc_are_numbers (fun vs H Q E h => spI_len rfl h) (fun cdv A outer s H vs Q E hr h => ⟨kS K (F_are_numbers (run n)).body, PSs.nox ?_, fn_read rfl (show (3 : Nat) ≤ 4 by decide) h⟩)
  exact (xb_cons (xs_if (PW.pt (x_or (x_not (x_truth (o_v (x_isi1 (t := .tuple) (o_var (i := 1) rfl (by first | exact Or.inl rfl | exact Or.inr (Or.inl rfl) | exact Or.inr (Or.inr rfl))) (by rfl) T.m_isinstance b_isinstance (by rfl) T.m_tuple b_tuple)) (fun _ => rfl))) (pw_or1 (x_cmpT op_gt s_gt (o_v (x_biB call_len_seq s_len (by rfl) T.m_len b_len (xa_cons (o_var (i := 1) rfl (by first | exact Or.inl rfl | exact Or.inr (Or.inl rfl) | exact Or.inr (Or.inr rfl))) xa_nil))) (o_var (i := 2) rfl (by first | exact Or.inl rfl | exact Or.inr (Or.inl rfl) | exact Or.inr (Or.inr rfl))) (nomark _))))) (xb_one (xs_ret x_bl)) xb_nil) (xb_one (xs_ret (x_biB (cr_all rfl) s_all (by rfl) T.m_all b_all (xa_cons (o_v (x_lc (own := [("number", 3)]) rfl nd (xi_seq (o_var (i := 1) rfl (by first | exact Or.inl rfl | exact Or.inr (Or.inl rfl) | exact Or.inr (Or.inr rfl)))) (blkOk_by (own := [("number", 3)]) (N := N_are_numbers) (sc := defScope (topS 14)) (by decide +kernel)) gs_nm (by simp [Tg.slots]) (fun _ _ _ _ _ => pg_name (i := 3) nd rfl (by first | exact Or.inl rfl | exact Or.inr rfl)) (fun _ _ _ _ _ => xts_nil) (fun _ _ _ _ _ => (x_call I.i_is_between hr (by rfl) T.g_is_between T.k_is_between T.b_is_between pass0 (xa_cons (o_var (i := 3) rfl (by first | exact Or.inl rfl | exact Or.inr (Or.inl rfl) | exact Or.inr (Or.inr rfl))) (xa_cons (o_v x_int) (xa_cons (o_v (x_bin op_sub s_sub (o_var (i := 0) rfl (by first | exact Or.inl rfl | exact Or.inr (Or.inl rfl) | exact Or.inr (Or.inr rfl))) (o_v x_int))) xa_nil))))))) xa_nil)))))
theorem ok_check_prime (T : Tx P w base K mg fd) {n : Nat} (I : Ih P w K mg base fd n) : FnOk P w K mg base CX0 (n + 1) (He.ga K "check_prime") (fd 4) P_check_prime (spI K (run (n + 1) "check_prime")) := by
  have nd := sc_check_prime.nd
  rw [run_check_prime]
  refine T.f_check_prime.ok sc_check_prime (fun vs H Q E h => spI_len rfl h) (fun cdv A outer s H vs Q E hr h => ⟨kS K (F_check_prime (run n)).body, PSs.nox ?_, fn_read rfl (show (1 : Nat) ≤ 1 by decide) h⟩)
  exact (xb_one (xs_if (PW.pt (x_or (x_not (x_truth (o_v (x_call I.i_is_between hr (by rfl) T.g_is_between T.k_is_between T.b_is_between pass0 (xa_cons (o_var (i := 0) rfl (by first | exact Or.inl rfl | exact Or.inr (Or.inl rfl) | exact Or.inr (Or.inr rfl))) (xa_cons (o_v x_int) (xa_cons (o_v x_int) xa_nil))))) (fun _ => rfl))) (pw_or1 (x_cmpT op_notIn_seq s_notIn (o_var (i := 0) rfl (by first | exact Or.inl rfl | exact Or.inr (Or.inl rfl) | exact Or.inr (Or.inr rfl))) (o_v (x_globT (is := [2, 3, 5, 7]) (by rfl) T.g_PRIMES T.t_PRIMES)) (by rfl))))) (xb_one xs_never) xb_nil))
theorem ok_check_number (T : Tx P w base K mg fd) {n : Nat} (I : Ih P w K mg base fd n) : FnOk P w K mg base CX0 (n + 1) (He.ga K "check_number") (fd 5) P_check_number (spI K (run (n + 1) "check_number")) := by
  have nd := sc_check_number.nd
  rw [run_check_number]
  refine T.f_check_number.ok sc_check_number (fun vs H Q E h => spI_len rfl h) (fun cdv A outer s H vs Q E hr h => ⟨kS K (F_check_number (run n)).body, PSs.nox ?_, fn_read rfl (show (3 : Nat) ≤ 3 by decide) h⟩)
  exact (xb_one (xs_if (x_not (x_truth (o_v (x_call I.i_is_between hr (by rfl) T.g_is_between T.k_is_between T.b_is_between pass0 (xa_cons (o_var (i := 0) rfl (by first | exact Or.inl rfl | exact Or.inr (Or.inl rfl) | exact Or.inr (Or.inr rfl))) (xa_cons (o_var (i := 1) rfl (by first | exact Or.inl rfl | exact Or.inr (Or.inl rfl) | exact Or.inr (Or.inr rfl))) (xa_cons (o_var (i := 2) rfl (by first | exact Or.inl rfl | exact Or.inr (Or.inl rfl) | exact Or.inr (Or.inr rfl))) xa_nil))))) (fun _ => rfl))) (xb_one xs_never) xb_nil))
theorem ok_check_row (T : Tx P w base K mg fd) {n : Nat} (I : Ih P w K mg base fd n) : FnOk P w K mg base CX0 (n + 1) (He.ga K "check_row") (fd 6) P_check_row (spI K (run (n + 1) "check_row")) := by
  have nd := sc_check_row.nd
  rw [run_check_row]
  refine T.f_check_row.ok sc_check_row (fun vs H Q E h => spI_len rfl h) (fun cdv A outer s H vs Q E hr h => ⟨kS K (F_check_row (run n)).body, PSs.nox ?_, fn_read rfl (show (2 : Nat) ≤ 2 by decide) h⟩)
  exact (xb_one (xs_if (x_not (x_truth (o_v (x_call I.i_are_numbers hr (by rfl) T.g_are_numbers T.k_are_numbers T.b_are_numbers pass0 (xa_cons (o_var (i := 0) rfl (by first | exact Or.inl rfl | exact Or.inr (Or.inl rfl) | exact Or.inr (Or.inr rfl))) (xa_cons (o_var (i := 1) rfl (by first | exact Or.inl rfl | exact Or.inr (Or.inl rfl) | exact Or.inr (Or.inr rfl))) (xa_cons (o_v (x_globI (by rfl) T.c_MOST_NUMBERS)) xa_nil))))) (fun _ => rfl))) (xb_one xs_never) xb_nil))
theorem ok_taps_of_low (T : Tx P w base K mg fd) {n : Nat} (I : Ih P w K mg base fd n) : FnOk P w K mg base CX0 (n + 1) (He.ga K "taps_of_low") (fd 7) P_taps_of_low (spI K (run (n + 1) "taps_of_low")) := by
  have nd := sc_taps_of_low.nd
  rw [run_taps_of_low]
  refine T.f_taps_of_low.ok sc_taps_of_low (fun vs H Q E h => spI_len rfl h) (fun cdv A outer s H vs Q E hr h => ⟨kS K (F_taps_of_low (run n)).body, PSs.nox ?_, fn_read rfl (show (2 : Nat) ≤ 3 by decide) h⟩)
  exact (xb_one (xs_ret (x_biT call_tuple_of s_tupO (by rfl) T.m_tuple b_tuple (xa_cons (o_v (x_lc (own := [("number", 2)]) rfl nd (xi_seq (o_v (x_sl (o_var (i := 1) rfl (by first | exact Or.inl rfl | exact Or.inr (Or.inl rfl) | exact Or.inr (Or.inr rfl))) (xp_some (o_v x_int)) xp_none))) (blkOk_by (own := [("number", 2)]) (N := N_taps_of_low) (sc := defScope (topS 19)) (by decide +kernel)) gs_nm (by simp [Tg.slots]) (fun _ _ _ _ _ => pg_name (i := 2) nd rfl (by first | exact Or.inl rfl | exact Or.inr rfl)) (fun _ _ _ _ _ => xts_nil) (fun _ _ _ _ _ => (x_bin op_mod s_mod (o_v (x_un un_neg s_neg (o_var (i := 2) rfl (by first | exact Or.inl rfl | exact Or.inr (Or.inl rfl) | exact Or.inr (Or.inr rfl))))) (o_var (i := 0) rfl (by first | exact Or.inl rfl | exact Or.inr (Or.inl rfl) | exact Or.inr (Or.inr rfl))))))) xa_nil))))
theorem ok_Growth_expected (T : Tx P w base K mg fd) {n : Nat} (I : Ih P w K mg base fd n) : FnOk P w K mg base CX0 (n + 1) (He.ma K (He.ga K "Growth") "expected") (fd 8) P_Growth_expected (spG K (run (n + 1) "Growth.expected")) := by
  have nd := sc_Growth_expected.nd
  rw [run_Growth_expected]
  refine T.f_Growth_expected.ok sc_Growth_expected (fun vs H Q E h => spG_len rfl h) (fun cdv A outer s H vs Q E hr h => ⟨kS K (F_Growth_expected (run n)).body, PSs.nox ?_, fnG_read rfl (show (1 : Nat) ≤ 4 by decide) h⟩)
  exact (xb_cons (xs_setLc (i := 1) (own := [("back", 2), ("number", 3)]) rfl nd rfl rfl (sw_true rfl rfl rfl (by decide +kernel)) (xi_enum (by rfl) T.m_enumerate (o_v (x_fld (i := 0) (k := 3) T.gt (pe_var (i := 0) rfl (by first | exact Or.inl rfl | exact Or.inr (Or.inl rfl) | exact Or.inr (Or.inr rfl)))))) (blkOk_by (own := [("back", 2), ("number", 3)]) (N := N_Growth_expected) (sc := defScope (inClass (topS 21) 1)) (by decide +kernel)) (gs_tup rfl (GSs.cons (GSs.cons GSs.nil))) (by simp [Tg.slots]) (fun _ _ _ _ _ => pg_tup rfl (pgs_cons (pg_name (i := 2) nd rfl (by first | exact Or.inl rfl | exact Or.inr rfl)) (pgs_cons (pg_name (i := 3) nd rfl (by first | exact Or.inl rfl | exact Or.inr rfl)) pgs_nil))) (fun _ _ _ _ _ => (xts_one (x_cmpT op_gt s_gt (o_var (i := 2) rfl (by first | exact Or.inl rfl | exact Or.inr (Or.inl rfl) | exact Or.inr (Or.inr rfl))) (o_v x_int) (nomark _)))) (fun _ _ _ _ _ => (x_bin op_mulA s_mul (o_var (i := 3) rfl (by first | exact Or.inl rfl | exact Or.inr (Or.inl rfl) | exact Or.inr (Or.inr rfl))) (o_v (x_fix (i := 0) (j := 2) T.gt (pe_var (i := 0) rfl (by first | exact Or.inl rfl | exact Or.inr (Or.inl rfl) | exact Or.inr (Or.inr rfl))) (pe_var (i := 2) rfl (by first | exact Or.inl rfl | exact Or.inr (Or.inl rfl) | exact Or.inr (Or.inr rfl)))))))) (xb_one (xs_ret (x_bin op_mod s_mod (o_v (x_un un_neg s_neg (o_v (x_biB (cr_sum2 rfl) s_sum2 (by rfl) T.m_sum b_sum (xa_cons (o_var (i := 1) rfl (by first | exact Or.inl rfl | exact Or.inr (Or.inl rfl) | exact Or.inr (Or.inr rfl))) xa_nil))))) (o_v (x_fld (i := 0) (k := 0) T.gt (pe_var (i := 0) rfl (by first | exact Or.inl rfl | exact Or.inr (Or.inl rfl) | exact Or.inr (Or.inr rfl)))))))))
theorem ok_Growth_may_jump (T : Tx P w base K mg fd) {n : Nat} (I : Ih P w K mg base fd n) : FnOk P w K mg base CX0 (n + 1) (He.ma K (He.ga K "Growth") "may_jump") (fd 9) P_Growth_may_jump (spG K (run (n + 1) "Growth.may_jump")) := by
  have nd := sc_Growth_may_jump.nd
  rw [run_Growth_may_jump]
  refine T.f_Growth_may_jump.ok sc_Growth_may_jump (fun vs H Q E h => spG_len rfl h) (fun cdv A outer s H vs Q E hr h => ⟨kS K (F_Growth_may_jump (run n)).body, PSs.nox ?_, fnG_read rfl (show (1 : Nat) ≤ 1 by decide) h⟩)
  exact (xb_one (xs_ret (x_cmp op_le s_le (o_v (x_bin op_mulA s_mul (o_v x_int) (o_v (x_fld (i := 0) (k := 2) T.gt (pe_var (i := 0) rfl (by first | exact Or.inl rfl | exact Or.inr (Or.inl rfl) | exact Or.inr (Or.inr rfl))))))) (o_v (x_flen (i := 0) T.gt (pe_var (i := 0) rfl (by first | exact Or.inl rfl | exact Or.inr (Or.inl rfl) | exact Or.inr (Or.inr rfl))) (by rfl) T.m_len b_len)) (nomark _))))
theorem ok_Growth_take (T : Tx P w base K mg fd) {n : Nat} (I : Ih P w K mg base fd n) : FnOk P w K mg base CX0 (n + 1) (He.ma K (He.ga K "Growth") "take") (fd 10) P_Growth_take (spG K (run (n + 1) "Growth.take")) := by
  have nd := sc_Growth_take.nd
  rw [run_Growth_take]
  refine T.f_Growth_take.ok sc_Growth_take (fun vs H Q E h => spG_len rfl h) (fun cdv A outer s H vs Q E hr h => ⟨kS K (F_Growth_take (run n)).body, PSs.nox ?_, fnG_read rfl (show (2 : Nat) ≤ 7 by decide) h⟩)
  exact (xb_cons (xs_set (i := 2) nd rfl (by first | exact Or.inl rfl | exact Or.inr rfl) (x_bin op_mod s_mod (o_v (x_bin op_sub s_sub (o_var (i := 1) rfl (by first | exact Or.inl rfl | exact Or.inr (Or.inl rfl) | exact Or.inr (Or.inr rfl))) (o_v (x_meth0 (i := 0) T.gt T.m_Growth_expected gf_Growth_expected I.i_Growth_expected hr T.b_Growth_expected pass0 (pe_var (i := 0) rfl (by first | exact Or.inl rfl | exact Or.inr (Or.inl rfl) | exact Or.inr (Or.inr rfl))))))) (o_v (x_fld (i := 0) (k := 0) T.gt (pe_var (i := 0) rfl (by first | exact Or.inl rfl | exact Or.inr (Or.inl rfl) | exact Or.inr (Or.inr rfl))))))) (xb_cons (xs_set (i := 3) nd rfl (by first | exact Or.inl rfl | exact Or.inr rfl) (x_andV (x_cmp (op_neD hr.units) s_ne (o_var (i := 2) rfl (by first | exact Or.inl rfl | exact Or.inr (Or.inl rfl) | exact Or.inr (Or.inr rfl))) (o_v x_int) (nomark _)) (pe_one (x_meth0 (i := 0) T.gt T.m_Growth_may_jump gf_Growth_may_jump I.i_Growth_may_jump hr T.b_Growth_may_jump pass0 (pe_var (i := 0) rfl (by first | exact Or.inl rfl | exact Or.inr (Or.inl rfl) | exact Or.inr (Or.inr rfl))))))) (xb_cons (xs_set (i := 4) nd rfl (by first | exact Or.inl rfl | exact Or.inr rfl) (x_fld (i := 0) (k := 3) T.gt (pe_var (i := 0) rfl (by first | exact Or.inl rfl | exact Or.inr (Or.inl rfl) | exact Or.inr (Or.inr rfl))))) (xb_cons (xs_if (x_cmpT (op_neD hr.units) s_ne (o_var (i := 2) rfl (by first | exact Or.inl rfl | exact Or.inr (Or.inl rfl) | exact Or.inr (Or.inr rfl))) (o_v x_int) (nomark _)) (xb_one (xs_fld (i := 0) (k := 3) T.gt (pe_var (i := 0) rfl (by first | exact Or.inl rfl | exact Or.inr (Or.inl rfl) | exact Or.inr (Or.inr rfl))) (x_meth (i := 0) T.gt T.m_Growth__corrected gf_Growth__corrected I.i_Growth__corrected hr T.b_Growth__corrected pass0 (pe_var (i := 0) rfl (by first | exact Or.inl rfl | exact Or.inr (Or.inl rfl) | exact Or.inr (Or.inr rfl))) (xa_cons (o_var (i := 2) rfl (by first | exact Or.inl rfl | exact Or.inr (Or.inl rfl) | exact Or.inr (Or.inr rfl))) xa_nil)))) xb_nil) (xb_cons (xs_faug (i := 0) (k := 5) T.gt (pe_var (i := 0) rfl (by first | exact Or.inl rfl | exact Or.inr (Or.inl rfl) | exact Or.inr (Or.inr rfl))) (o_v x_int) in_add (fun m n H Q q => ⟨m, n, rfl, rfl, q⟩)) (xb_cons (xs_if (x_truth (o_var (i := 3) rfl (by first | exact Or.inl rfl | exact Or.inr (Or.inl rfl) | exact Or.inr (Or.inr rfl))) (fun _ => rfl)) (xb_cons (xs_set (i := 5) nd rfl (by first | exact Or.inl rfl | exact Or.inr rfl) (x_call I.i_inverse hr (by rfl) T.g_inverse T.k_inverse T.b_inverse pass0 (xa_cons (o_v (x_fld (i := 0) (k := 0) T.gt (pe_var (i := 0) rfl (by first | exact Or.inl rfl | exact Or.inr (Or.inl rfl) | exact Or.inr (Or.inr rfl))))) (xa_cons (o_var (i := 2) rfl (by first | exact Or.inl rfl | exact Or.inr (Or.inl rfl) | exact Or.inr (Or.inr rfl))) xa_nil)))) (xb_cons (xs_fld (i := 0) (k := 4) T.gt (pe_var (i := 0) rfl (by first | exact Or.inl rfl | exact Or.inr (Or.inl rfl) | exact Or.inr (Or.inr rfl))) (x_lc (own := [("coefficient", 6)]) rfl nd (xi_seq (o_var (i := 4) rfl (by first | exact Or.inl rfl | exact Or.inr (Or.inl rfl) | exact Or.inr (Or.inr rfl)))) (blkOk_by (own := [("coefficient", 6)]) (N := N_Growth_take) (sc := defScope (inClass (topS 21) 3)) (by decide +kernel)) gs_nm (by simp [Tg.slots]) (fun _ _ _ _ _ => pg_name (i := 6) nd rfl (by first | exact Or.inl rfl | exact Or.inr rfl)) (fun _ _ _ _ _ => xts_nil) (fun _ _ _ _ _ => (x_bin op_mod s_mod (o_v (x_bin op_mulA s_mul (o_var (i := 5) rfl (by first | exact Or.inl rfl | exact Or.inr (Or.inl rfl) | exact Or.inr (Or.inr rfl))) (o_var (i := 6) rfl (by first | exact Or.inl rfl | exact Or.inr (Or.inl rfl) | exact Or.inr (Or.inr rfl))))) (o_v (x_fld (i := 0) (k := 0) T.gt (pe_var (i := 0) rfl (by first | exact Or.inl rfl | exact Or.inr (Or.inl rfl) | exact Or.inr (Or.inr rfl))))))))) (xb_cons (xs_fld (i := 0) (k := 5) T.gt (pe_var (i := 0) rfl (by first | exact Or.inl rfl | exact Or.inr (Or.inl rfl) | exact Or.inr (Or.inr rfl))) x_int) (xb_one (xs_fld (i := 0) (k := 2) T.gt (pe_var (i := 0) rfl (by first | exact Or.inl rfl | exact Or.inr (Or.inl rfl) | exact Or.inr (Or.inr rfl))) (x_bin op_sub s_sub (o_v (x_bin op_addA s_add (o_v (x_flen (i := 0) T.gt (pe_var (i := 0) rfl (by first | exact Or.inl rfl | exact Or.inr (Or.inl rfl) | exact Or.inr (Or.inr rfl))) (by rfl) T.m_len b_len)) (o_v x_int))) (o_v (x_fld (i := 0) (k := 2) T.gt (pe_var (i := 0) rfl (by first | exact Or.inl rfl | exact Or.inr (Or.inl rfl) | exact Or.inr (Or.inr rfl))))))))))) xb_nil) (xb_one (xs_fapp (i := 0) (j := 1) T.gt (pe_var (i := 0) rfl (by first | exact Or.inl rfl | exact Or.inr (Or.inl rfl) | exact Or.inr (Or.inr rfl))) (pe_var (i := 1) rfl (by first | exact Or.inl rfl | exact Or.inr (Or.inl rfl) | exact Or.inr (Or.inr rfl)))))))))))
theorem ok_Growth_taps (T : Tx P w base K mg fd) {n : Nat} (I : Ih P w K mg base fd n) : FnOk P w K mg base CX0 (n + 1) (He.ma K (He.ga K "Growth") "taps") (fd 11) P_Growth_taps (spG K (run (n + 1) "Growth.taps")) := by
  have nd := sc_Growth_taps.nd
  rw [run_Growth_taps]
  refine T.f_Growth_taps.ok sc_Growth_taps (fun vs H Q E h => spG_len rfl h) (fun cdv A outer s H vs Q E hr h => ⟨kS K (F_Growth_taps (run n)).body, PSs.nox ?_, fnG_read rfl (show (1 : Nat) ≤ 1 by decide) h⟩)
  exact (xb_one (xs_ret (x_call I.i_taps_of_low hr (by rfl) T.g_taps_of_low T.k_taps_of_low T.b_taps_of_low pass0 (xa_cons (o_v (x_fld (i := 0) (k := 0) T.gt (pe_var (i := 0) rfl (by first | exact Or.inl rfl | exact Or.inr (Or.inl rfl) | exact Or.inr (Or.inr rfl))))) (xa_cons (o_v (x_fld (i := 0) (k := 3) T.gt (pe_var (i := 0) rfl (by first | exact Or.inl rfl | exact Or.inr (Or.inl rfl) | exact Or.inr (Or.inr rfl))))) xa_nil)))))
theorem ok_Growth__corrected (T : Tx P w base K mg fd) {n : Nat} (I : Ih P w K mg base fd n) : FnOk P w K mg base CX0 (n + 1) (He.ma K (He.ga K "Growth") "_corrected") (fd 12) P_Growth__corrected (spG K (run (n + 1) "Growth._corrected")) := by
  have nd := sc_Growth__corrected.nd
  rw [run_Growth__corrected]
  refine T.f_Growth__corrected.ok sc_Growth__corrected (fun vs H Q E h => spG_len rfl h) (fun cdv A outer s H vs Q E hr h => ⟨kS K (F_Growth__corrected (run n)).body, PSs.nox ?_, fnG_read rfl (show (2 : Nat) ≤ 5 by decide) h⟩)
  exact (xb_cons (xs_set (i := 2) nd rfl (by first | exact Or.inl rfl | exact Or.inr rfl) (x_bin op_addA s_add (o_v (x_fld (i := 0) (k := 3) T.gt (pe_var (i := 0) rfl (by first | exact Or.inl rfl | exact Or.inr (Or.inl rfl) | exact Or.inr (Or.inr rfl))))) (o_v (x_bin op_mulA s_mul (o_v (x_lst (xa_cons (o_v x_int) xa_nil))) (o_v (x_bin op_sub s_sub (o_v (x_bin op_addA s_add (o_v (x_fld (i := 0) (k := 5) T.gt (pe_var (i := 0) rfl (by first | exact Or.inl rfl | exact Or.inr (Or.inl rfl) | exact Or.inr (Or.inr rfl))))) (o_v (x_biB call_len_seq s_len (by rfl) T.m_len b_len (xa_cons (o_v (x_fld (i := 0) (k := 4) T.gt (pe_var (i := 0) rfl (by first | exact Or.inl rfl | exact Or.inr (Or.inl rfl) | exact Or.inr (Or.inr rfl))))) xa_nil))))) (o_v (x_biB call_len_seq s_len (by rfl) T.m_len b_len (xa_cons (o_v (x_fld (i := 0) (k := 3) T.gt (pe_var (i := 0) rfl (by first | exact Or.inl rfl | exact Or.inr (Or.inl rfl) | exact Or.inr (Or.inr rfl))))) xa_nil))))))))) (xb_cons (x_for PassesOwn.never rfl (xi_enum (by rfl) T.m_enumerate (o_v (x_fld (i := 0) (k := 4) T.gt (pe_var (i := 0) rfl (by first | exact Or.inl rfl | exact Or.inr (Or.inl rfl) | exact Or.inr (Or.inr rfl)))))) (pg_tup rfl (pgs_cons (pg_name (i := 3) nd rfl (by first | exact Or.inl rfl | exact Or.inr rfl)) (pgs_cons (pg_name (i := 4) nd rfl (by first | exact Or.inl rfl | exact Or.inr rfl)) pgs_nil))) (gs_tup rfl (GSs.cons (GSs.cons GSs.nil))) (xb_one (xs_setIx (i := 2) (pe_var (i := 2) rfl (by first | exact Or.inl rfl | exact Or.inr (Or.inl rfl) | exact Or.inr (Or.inr rfl))) (o_v (x_bin op_addA s_add (o_v (x_fld (i := 0) (k := 5) T.gt (pe_var (i := 0) rfl (by first | exact Or.inl rfl | exact Or.inr (Or.inl rfl) | exact Or.inr (Or.inr rfl))))) (o_var (i := 3) rfl (by first | exact Or.inl rfl | exact Or.inr (Or.inl rfl) | exact Or.inr (Or.inr rfl))))) (o_v (x_bin op_mod s_mod (o_v (x_bin op_sub s_sub (o_v (x_ix ix_any s_ix (o_var (i := 2) rfl (by first | exact Or.inl rfl | exact Or.inr (Or.inl rfl) | exact Or.inr (Or.inr rfl))) (o_v (x_bin op_addA s_add (o_v (x_fld (i := 0) (k := 5) T.gt (pe_var (i := 0) rfl (by first | exact Or.inl rfl | exact Or.inr (Or.inl rfl) | exact Or.inr (Or.inr rfl))))) (o_var (i := 3) rfl (by first | exact Or.inl rfl | exact Or.inr (Or.inl rfl) | exact Or.inr (Or.inr rfl))))) (fun _ _ => rfl))) (o_v (x_bin op_mulA s_mul (o_var (i := 1) rfl (by first | exact Or.inl rfl | exact Or.inr (Or.inl rfl) | exact Or.inr (Or.inr rfl))) (o_var (i := 4) rfl (by first | exact Or.inl rfl | exact Or.inr (Or.inl rfl) | exact Or.inr (Or.inr rfl))))))) (o_v (x_fld (i := 0) (k := 0) T.gt (pe_var (i := 0) rfl (by first | exact Or.inl rfl | exact Or.inr (Or.inl rfl) | exact Or.inr (Or.inr rfl)))))))))) (xb_one (xs_ret (x_var (i := 2) rfl (by first | exact Or.inl rfl | exact Or.inr (Or.inl rfl) | exact Or.inr (Or.inr rfl)))))))
theorem ok_grown (T : Tx P w base K mg fd) {n : Nat} (I : Ih P w K mg base fd n) : FnOk P w K mg base CX0 (n + 1) (He.ga K "grown") (fd 13) P_grown (spN K (run (n + 1) "grown")) := by
  have nd := sc_grown.nd
  rw [run_grown]
  refine T.f_grown.ok sc_grown (fun vs H Q E h => spN_len rfl h) (fun cdv A outer s H vs Q E hr h => ⟨kS K (F_grown (run n)).body, PSs.nox ?_, fnN_read rfl (show (2 : Nat) ≤ 4 by decide) h⟩)
  exact (xb_cons (xs_callN (i := 2) nd rfl (by first | exact Or.inl rfl | exact Or.inr rfl) (x_mkN (by rcases run_Growth n with h | h; exact .inl h; exact .inr ⟨hr.mono h.1, h.2⟩) T.mkG T.i_init.choose_spec.1 (by rfl) T.g_Growth T.i_init.choose_spec.2 pass0 (xa_cons (o_var (i := 0) rfl (by first | exact Or.inl rfl | exact Or.inr (Or.inl rfl) | exact Or.inr (Or.inr rfl))) xa_nil))) (xb_cons (x_for PassesOwn.never rfl (xi_seq (o_v (x_var (i := 1) rfl (by first | exact Or.inl rfl | exact Or.inr (Or.inl rfl) | exact Or.inr (Or.inr rfl))))) (pg_name (i := 3) nd rfl (by first | exact Or.inl rfl | exact Or.inr rfl)) gs_nm (xb_one (xs_ex (x_meth (i := 2) T.gt T.m_Growth_take gf_Growth_take I.i_Growth_take hr T.b_Growth_take pass0 (pe_var (i := 2) rfl (by first | exact Or.inl rfl | exact Or.inr (Or.inl rfl) | exact Or.inr (Or.inr rfl))) (xa_cons (o_var (i := 3) rfl (by first | exact Or.inl rfl | exact Or.inr (Or.inl rfl) | exact Or.inr (Or.inr rfl))) xa_nil))))) (xb_one (xs_retG (i := 2) (pe_var (i := 2) rfl (by first | exact Or.inl rfl | exact Or.inr (Or.inl rfl) | exact Or.inr (Or.inr rfl)))))))
theorem ok_least_length (T : Tx P w base K mg fd) {n : Nat} (I : Ih P w K mg base fd n) : FnOk P w K mg base CX0 (n + 1) (He.ga K "least_length") (fd 14) P_least_length (spI K (run (n + 1) "least_length")) := by
  have nd := sc_least_length.nd
  rw [run_least_length]
  refine T.f_least_length.ok sc_least_length (fun vs H Q E h => spI_len rfl h) (fun cdv A outer s H vs Q E hr h => ⟨kS K (F_least_length (run n)).body, PSs.nox ?_, fn_read rfl (show (2 : Nat) ≤ 2 by decide) h⟩)
  exact (xb_cons (xs_ex (x_call I.i__check hr (by rfl) T.g__check T.k__check T.b__check pass0 (xa_cons (o_var (i := 0) rfl (by first | exact Or.inl rfl | exact Or.inr (Or.inl rfl) | exact Or.inr (Or.inr rfl))) (xa_cons (o_var (i := 1) rfl (by first | exact Or.inl rfl | exact Or.inr (Or.inl rfl) | exact Or.inr (Or.inr rfl))) xa_nil)))) (xb_one (xs_ret (x_callNFld (k := 2) T.gt (x_callN I.i_grown hr (by rfl) T.g_grown T.k_grown T.b_grown pass0 (xa_cons (o_var (i := 0) rfl (by first | exact Or.inl rfl | exact Or.inr (Or.inl rfl) | exact Or.inr (Or.inr rfl))) (xa_cons (o_var (i := 1) rfl (by first | exact Or.inl rfl | exact Or.inr (Or.inl rfl) | exact Or.inr (Or.inr rfl))) xa_nil)))))))
theorem ok_shortest (T : Tx P w base K mg fd) {n : Nat} (I : Ih P w K mg base fd n) : FnOk P w K mg base CX0 (n + 1) (He.ga K "shortest") (fd 15) P_shortest (spI K (run (n + 1) "shortest")) := by
  have nd := sc_shortest.nd
  rw [run_shortest]
  refine T.f_shortest.ok sc_shortest (fun vs H Q E h => spI_len rfl h) (fun cdv A outer s H vs Q E hr h => ⟨kS K (F_shortest (run n)).body, PSs.nox ?_, fn_read rfl (show (2 : Nat) ≤ 2 by decide) h⟩)
  exact (xb_cons (xs_ex (x_call I.i__check hr (by rfl) T.g__check T.k__check T.b__check pass0 (xa_cons (o_var (i := 0) rfl (by first | exact Or.inl rfl | exact Or.inr (Or.inl rfl) | exact Or.inr (Or.inr rfl))) (xa_cons (o_var (i := 1) rfl (by first | exact Or.inl rfl | exact Or.inr (Or.inl rfl) | exact Or.inr (Or.inr rfl))) xa_nil)))) (xb_one (xs_ret (x_callNMeth T.gt T.m_Growth_taps gf_Growth_taps I.i_Growth_taps hr T.b_Growth_taps pass0 (x_callN I.i_grown hr (by rfl) T.g_grown T.k_grown T.b_grown pass0 (xa_cons (o_var (i := 0) rfl (by first | exact Or.inl rfl | exact Or.inr (Or.inl rfl) | exact Or.inr (Or.inr rfl))) (xa_cons (o_var (i := 1) rfl (by first | exact Or.inl rfl | exact Or.inr (Or.inl rfl) | exact Or.inr (Or.inr rfl))) xa_nil)))))))
theorem ok_all_shortest (T : Tx P w base K mg fd) {n : Nat} (I : Ih P w K mg base fd n) : FnOk P w K mg base CX0 (n + 1) (He.ga K "all_shortest") (fd 16) P_all_shortest (spI K (run (n + 1) "all_shortest")) := by
  have nd := sc_all_shortest.nd
  rw [run_all_shortest]
  refine T.f_all_shortest.ok sc_all_shortest (fun vs H Q E h => spI_len rfl h) (fun cdv A outer s H vs Q E hr h => ⟨kS K (F_all_shortest (run n)).body, PSs.nox ?_, fn_read rfl (show (2 : Nat) ≤ 9 by decide) h⟩)
  exact (xb_cons (xs_ex (x_call I.i__check hr (by rfl) T.g__check T.k__check T.b__check pass0 (xa_cons (o_var (i := 0) rfl (by first | exact Or.inl rfl | exact Or.inr (Or.inl rfl) | exact Or.inr (Or.inr rfl))) (xa_cons (o_var (i := 1) rfl (by first | exact Or.inl rfl | exact Or.inr (Or.inl rfl) | exact Or.inr (Or.inr rfl))) xa_nil)))) (xb_cons (xs_callN (i := 2) nd rfl (by first | exact Or.inl rfl | exact Or.inr rfl) (x_callN I.i_grown hr (by rfl) T.g_grown T.k_grown T.b_grown pass0 (xa_cons (o_var (i := 0) rfl (by first | exact Or.inl rfl | exact Or.inr (Or.inl rfl) | exact Or.inr (Or.inr rfl))) (xa_cons (o_var (i := 1) rfl (by first | exact Or.inl rfl | exact Or.inr (Or.inl rfl) | exact Or.inr (Or.inr rfl))) xa_nil)))) (xb_cons (xs_set (i := 3) nd rfl (by first | exact Or.inl rfl | exact Or.inr rfl) (x_biB (call_max2 rfl) s_max2 (by rfl) T.m_max b_max (xa_cons (o_v x_int) (xa_cons (o_v (x_bin op_sub s_sub (o_v (x_bin op_mulA s_mul (o_v x_int) (o_v (x_fld (i := 2) (k := 2) T.gt (pe_var (i := 2) rfl (by first | exact Or.inl rfl | exact Or.inr (Or.inl rfl) | exact Or.inr (Or.inr rfl))))))) (o_v (x_biB call_len_seq s_len (by rfl) T.m_len b_len (xa_cons (o_var (i := 1) rfl (by first | exact Or.inl rfl | exact Or.inr (Or.inl rfl) | exact Or.inr (Or.inr rfl))) xa_nil))))) xa_nil)))) (xb_cons (xs_if (x_cmpT op_gt s_gt (o_v (x_call I.i_power_of hr (by rfl) T.g_power_of T.k_power_of T.b_power_of pass0 (xa_cons (o_var (i := 0) rfl (by first | exact Or.inl rfl | exact Or.inr (Or.inl rfl) | exact Or.inr (Or.inr rfl))) (xa_cons (o_var (i := 3) rfl (by first | exact Or.inl rfl | exact Or.inr (Or.inl rfl) | exact Or.inr (Or.inr rfl))) xa_nil)))) (o_v (x_globI (by rfl) T.c_MOST_FOUND)) (nomark _)) (xb_one xs_never) xb_nil) (xb_cons (xs_set (i := 4) nd rfl (by first | exact Or.inl rfl | exact Or.inr rfl) (x_lst (xa_cons (o_v (x_meth0 (i := 2) T.gt T.m_Growth_taps gf_Growth_taps I.i_Growth_taps hr T.b_Growth_taps pass0 (pe_var (i := 2) rfl (by first | exact Or.inl rfl | exact Or.inr (Or.inl rfl) | exact Or.inr (Or.inr rfl))))) xa_nil))) (xb_cons (x_for PassesOwn.never rfl (xi_range1 (by rfl) T.m_range (o_var (i := 3) rfl (by first | exact Or.inl rfl | exact Or.inr (Or.inl rfl) | exact Or.inr (Or.inr rfl)))) (pg_name (i := 5) nd rfl (by first | exact Or.inl rfl | exact Or.inr rfl)) gs_nm (xb_cons (xs_set (i := 6) nd rfl (by first | exact Or.inl rfl | exact Or.inr rfl) (x_bin op_addA s_add (o_v (x_bin op_mulA s_mul (o_v (x_lst (xa_cons (o_v x_int) xa_nil))) (o_v (x_bin op_sub s_sub (o_v (x_bin op_addA s_add (o_v (x_fld (i := 2) (k := 5) T.gt (pe_var (i := 2) rfl (by first | exact Or.inl rfl | exact Or.inr (Or.inl rfl) | exact Or.inr (Or.inr rfl))))) (o_var (i := 5) rfl (by first | exact Or.inl rfl | exact Or.inr (Or.inl rfl) | exact Or.inr (Or.inr rfl))))) (o_v x_int))))) (o_v (x_fld (i := 2) (k := 4) T.gt (pe_var (i := 2) rfl (by first | exact Or.inl rfl | exact Or.inr (Or.inl rfl) | exact Or.inr (Or.inr rfl))))))) (xb_cons (xs_set (i := 6) nd rfl (by first | exact Or.inl rfl | exact Or.inr rfl) (x_bin op_addA s_add (o_var (i := 6) rfl (by first | exact Or.inl rfl | exact Or.inr (Or.inl rfl) | exact Or.inr (Or.inr rfl))) (o_v (x_bin op_mulA s_mul (o_v (x_lst (xa_cons (o_v x_int) xa_nil))) (o_v (x_bin op_sub s_sub (o_v (x_fld (i := 2) (k := 2) T.gt (pe_var (i := 2) rfl (by first | exact Or.inl rfl | exact Or.inr (Or.inl rfl) | exact Or.inr (Or.inr rfl))))) (o_v (x_biB call_len_seq s_len (by rfl) T.m_len b_len (xa_cons (o_var (i := 6) rfl (by first | exact Or.inl rfl | exact Or.inr (Or.inl rfl) | exact Or.inr (Or.inr rfl))) xa_nil))))))))) (xb_one (xs_setLc2 (i := 4) (own := [("taps", 7), ("times", 8)]) (vs1 := [8]) rfl nd rfl rfl (sw_true rfl rfl rfl (by decide +kernel)) (xi_seq (o_var (i := 4) rfl (by first | exact Or.inl rfl | exact Or.inr (Or.inl rfl) | exact Or.inr (Or.inr rfl)))) (blkOk_by (own := [("taps", 7), ("times", 8)]) (N := N_all_shortest) (sc := defScope (topS 26)) (by decide +kernel)) gs_nm (by simp [Tg.slots]) gs_nm (by simp [Tg.slots]) (by simp) (fun _ _ _ _ _ => pg_name (i := 7) nd rfl (by first | exact Or.inl rfl | exact Or.inr rfl)) (fun _ _ _ _ _ => xts_nil) (fun _ _ _ _ _ => (xj_range1 (by rfl) T.m_range (o_var (i := 0) rfl (by first | exact Or.inl rfl | exact Or.inr (Or.inl rfl) | exact Or.inr (Or.inr rfl))))) (fun _ _ _ _ _ => pg_name (i := 8) nd rfl (by first | exact Or.inl rfl | exact Or.inr rfl)) (fun _ _ _ _ _ => xts_nil) (fun _ _ _ _ _ => (x_call I.i__changed hr (by rfl) T.g__changed T.k__changed T.b__changed pass0 (xa_cons (o_var (i := 0) rfl (by first | exact Or.inl rfl | exact Or.inr (Or.inl rfl) | exact Or.inr (Or.inr rfl))) (xa_cons (o_var (i := 7) rfl (by first | exact Or.inl rfl | exact Or.inr (Or.inl rfl) | exact Or.inr (Or.inr rfl))) (xa_cons (o_var (i := 8) rfl (by first | exact Or.inl rfl | exact Or.inr (Or.inl rfl) | exact Or.inr (Or.inr rfl))) (xa_cons (o_var (i := 6) rfl (by first | exact Or.inl rfl | exact Or.inr (Or.inl rfl) | exact Or.inr (Or.inr rfl))) xa_nil))))))))))) (xb_one (xs_ret (x_biB (cr_srt1 rfl) s_srt1 (by rfl) T.m_sorted b_sorted (xa_cons (o_var (i := 4) rfl (by first | exact Or.inl rfl | exact Or.inr (Or.inl rfl) | exact Or.inr (Or.inr rfl))) xa_nil))))))))))
theorem ok_lower_bound (T : Tx P w base K mg fd) {n : Nat} (I : Ih P w K mg base fd n) : FnOk P w K mg base CX0 (n + 1) (He.ga K "lower_bound") (fd 17) P_lower_bound (spI K (run (n + 1) "lower_bound")) := by
  have nd := sc_lower_bound.nd
  rw [run_lower_bound]
  refine T.f_lower_bound.ok sc_lower_bound (fun vs H Q E h => spI_len rfl h) (fun cdv A outer s H vs Q E hr h => ⟨kS K (F_lower_bound (run n)).body, PSs.nox ?_, fn_read rfl (show (3 : Nat) ≤ 5 by decide) h⟩)
  exact (xb_cons (xs_ex (x_call I.i__check hr (by rfl) T.g__check T.k__check T.b__check pass0 (xa_cons (o_var (i := 0) rfl (by first | exact Or.inl rfl | exact Or.inr (Or.inl rfl) | exact Or.inr (Or.inr rfl))) (xa_cons (o_var (i := 1) rfl (by first | exact Or.inl rfl | exact Or.inr (Or.inl rfl) | exact Or.inr (Or.inr rfl))) xa_nil)))) (xb_cons (xs_ex (x_call I.i_check_number hr (by rfl) T.g_check_number T.k_check_number T.b_check_number pass0 (xa_cons (o_var (i := 2) rfl (by first | exact Or.inl rfl | exact Or.inr (Or.inl rfl) | exact Or.inr (Or.inr rfl))) (xa_cons (o_v x_int) (xa_cons (o_v (x_biB call_len_seq s_len (by rfl) T.m_len b_len (xa_cons (o_var (i := 1) rfl (by first | exact Or.inl rfl | exact Or.inr (Or.inl rfl) | exact Or.inr (Or.inr rfl))) xa_nil))) xa_nil))))) (xb_cons (xs_callN (i := 3) nd rfl (by first | exact Or.inl rfl | exact Or.inr rfl) (x_mkN (by rcases run_Growth n with h | h; exact .inl h; exact .inr ⟨hr.mono h.1, h.2⟩) T.mkG T.i_init.choose_spec.1 (by rfl) T.g_Growth T.i_init.choose_spec.2 pass0 (xa_cons (o_var (i := 0) rfl (by first | exact Or.inl rfl | exact Or.inr (Or.inl rfl) | exact Or.inr (Or.inr rfl))) xa_nil))) (xb_cons (x_for PassesOwn.never rfl (xi_seq (o_v (x_var (i := 1) rfl (by first | exact Or.inl rfl | exact Or.inr (Or.inl rfl) | exact Or.inr (Or.inr rfl))))) (pg_name (i := 4) nd rfl (by first | exact Or.inl rfl | exact Or.inr rfl)) gs_nm (xb_cons (xs_ex (x_meth (i := 3) T.gt T.m_Growth_take gf_Growth_take I.i_Growth_take hr T.b_Growth_take pass0 (pe_var (i := 3) rfl (by first | exact Or.inl rfl | exact Or.inr (Or.inl rfl) | exact Or.inr (Or.inr rfl))) (xa_cons (o_var (i := 4) rfl (by first | exact Or.inl rfl | exact Or.inr (Or.inl rfl) | exact Or.inr (Or.inr rfl))) xa_nil))) (xb_one (xs_if (x_cmpT op_gt s_gt (o_v (x_fld (i := 3) (k := 2) T.gt (pe_var (i := 3) rfl (by first | exact Or.inl rfl | exact Or.inr (Or.inl rfl) | exact Or.inr (Or.inr rfl))))) (o_var (i := 2) rfl (by first | exact Or.inl rfl | exact Or.inr (Or.inl rfl) | exact Or.inr (Or.inr rfl))) (nomark _)) (xb_one (xs_ret (x_callG (i := 3) I.i__weights hr (by rfl) T.g__weights T.k__weights T.b__weights pass0 (pe_var (i := 3) rfl (by first | exact Or.inl rfl | exact Or.inr (Or.inl rfl) | exact Or.inr (Or.inr rfl))) (xa_cons (o_var (i := 2) rfl (by first | exact Or.inl rfl | exact Or.inr (Or.inl rfl) | exact Or.inr (Or.inr rfl))) (xa_cons (o_v (x_biB call_len_seq s_len (by rfl) T.m_len b_len (xa_cons (o_var (i := 1) rfl (by first | exact Or.inl rfl | exact Or.inr (Or.inl rfl) | exact Or.inr (Or.inr rfl))) xa_nil))) xa_nil))))) xb_nil)))) (xb_one (xs_ret x_non))))))
theorem ok__check (T : Tx P w base K mg fd) {n : Nat} (I : Ih P w K mg base fd n) : FnOk P w K mg base CX0 (n + 1) (He.ga K "_check") (fd 18) P__check (spI K (run (n + 1) "_check")) := by
  have nd := sc__check.nd
  rw [run__check]
  refine T.f__check.ok sc__check (fun vs H Q E h => spI_len rfl h) (fun cdv A outer s H vs Q E hr h => ⟨kS K (F__check (run n)).body, PSs.nox ?_, fn_read rfl (show (2 : Nat) ≤ 2 by decide) h⟩)
  exact (xb_cons (xs_ex (x_call I.i_check_prime hr (by rfl) T.g_check_prime T.k_check_prime T.b_check_prime pass0 (xa_cons (o_var (i := 0) rfl (by first | exact Or.inl rfl | exact Or.inr (Or.inl rfl) | exact Or.inr (Or.inr rfl))) xa_nil))) (xb_one (xs_ex (x_call I.i_check_row hr (by rfl) T.g_check_row T.k_check_row T.b_check_row pass0 (xa_cons (o_var (i := 0) rfl (by first | exact Or.inl rfl | exact Or.inr (Or.inl rfl) | exact Or.inr (Or.inr rfl))) (xa_cons (o_var (i := 1) rfl (by first | exact Or.inl rfl | exact Or.inr (Or.inl rfl) | exact Or.inr (Or.inr rfl))) xa_nil))))))
theorem ok__changed (T : Tx P w base K mg fd) {n : Nat} (I : Ih P w K mg base fd n) : FnOk P w K mg base CX0 (n + 1) (He.ga K "_changed") (fd 19) P__changed (spI K (run (n + 1) "_changed")) := by
  have nd := sc__changed.nd
  rw [run__changed]
  refine T.f__changed.ok sc__changed (fun vs H Q E h => spI_len rfl h) (fun cdv A outer s H vs Q E hr h => ⟨kS K (F__changed (run n)).body, PSs.nox ?_, fn_read rfl (show (4 : Nat) ≤ 6 by decide) h⟩)
  exact (xb_one (xs_ret (x_biT call_tuple_of s_tupO (by rfl) T.m_tuple b_tuple (xa_cons (o_v (x_lc (own := [("tap", 4), ("number", 5)]) rfl nd (xi_zip (by rfl) T.m_zip (o_v (x_var (i := 1) rfl (by first | exact Or.inl rfl | exact Or.inr (Or.inl rfl) | exact Or.inr (Or.inr rfl)))) (o_v (x_var (i := 3) rfl (by first | exact Or.inl rfl | exact Or.inr (Or.inl rfl) | exact Or.inr (Or.inr rfl))))) (blkOk_by (own := [("tap", 4), ("number", 5)]) (N := N__changed) (sc := defScope (topS 29)) (by decide +kernel)) (gs_tup rfl (GSs.cons (GSs.cons GSs.nil))) (by simp [Tg.slots]) (fun _ _ _ _ _ => pg_tup rfl (pgs_cons (pg_name (i := 4) nd rfl (by first | exact Or.inl rfl | exact Or.inr rfl)) (pgs_cons (pg_name (i := 5) nd rfl (by first | exact Or.inl rfl | exact Or.inr rfl)) pgs_nil))) (fun _ _ _ _ _ => xts_nil) (fun _ _ _ _ _ => (x_bin op_mod s_mod (o_v (x_bin op_addA s_add (o_var (i := 4) rfl (by first | exact Or.inl rfl | exact Or.inr (Or.inl rfl) | exact Or.inr (Or.inr rfl))) (o_v (x_bin op_mulA s_mul (o_var (i := 2) rfl (by first | exact Or.inl rfl | exact Or.inr (Or.inl rfl) | exact Or.inr (Or.inr rfl))) (o_var (i := 5) rfl (by first | exact Or.inl rfl | exact Or.inr (Or.inl rfl) | exact Or.inr (Or.inr rfl))))))) (o_var (i := 0) rfl (by first | exact Or.inl rfl | exact Or.inr (Or.inl rfl) | exact Or.inr (Or.inr rfl))))))) xa_nil))))
theorem ok__weights (T : Tx P w base K mg fd) {n : Nat} (I : Ih P w K mg base fd n) : FnOk P w K mg base CX0 (n + 1) (He.ga K "_weights") (fd 20) P__weights (spG K (run (n + 1) "_weights")) := by
  have nd := sc__weights.nd
  rw [run__weights]
  refine T.f__weights.ok sc__weights (fun vs H Q E h => spG_len rfl h) (fun cdv A outer s H vs Q E hr h => ⟨kS K (F__weights (run n)).body, PSs.nox ?_, fnG_read rfl (show (3 : Nat) ≤ 7 by decide) h⟩)
  exact (xb_cons (xs_set (i := 3) nd rfl (by first | exact Or.inl rfl | exact Or.inr rfl) (x_bin op_mulA s_mul (o_v (x_lst (xa_cons (o_v x_int) xa_nil))) (o_v (x_bin op_sub s_sub (o_var (i := 2) rfl (by first | exact Or.inl rfl | exact Or.inr (Or.inl rfl) | exact Or.inr (Or.inr rfl))) (o_var (i := 1) rfl (by first | exact Or.inl rfl | exact Or.inr (Or.inl rfl) | exact Or.inr (Or.inr rfl))))))) (xb_cons (xs_set (i := 4) nd rfl (by first | exact Or.inl rfl | exact Or.inr rfl) (x_bin op_sub s_sub (o_v (x_flen (i := 0) T.gt (pe_var (i := 0) rfl (by first | exact Or.inl rfl | exact Or.inr (Or.inl rfl) | exact Or.inr (Or.inr rfl))) (by rfl) T.m_len b_len)) (o_v x_int))) (xb_cons (x_for PassesOwn.never rfl (xi_enum (by rfl) T.m_enumerate (o_v (x_fld (i := 0) (k := 4) T.gt (pe_var (i := 0) rfl (by first | exact Or.inl rfl | exact Or.inr (Or.inl rfl) | exact Or.inr (Or.inr rfl)))))) (pg_tup rfl (pgs_cons (pg_name (i := 5) nd rfl (by first | exact Or.inl rfl | exact Or.inr rfl)) (pgs_cons (pg_name (i := 6) nd rfl (by first | exact Or.inl rfl | exact Or.inr rfl)) pgs_nil))) (gs_tup rfl (GSs.cons (GSs.cons GSs.nil))) (xb_one (xs_setIx (i := 3) (pe_var (i := 3) rfl (by first | exact Or.inl rfl | exact Or.inr (Or.inl rfl) | exact Or.inr (Or.inr rfl))) (o_v (x_bin op_sub s_sub (o_v (x_bin op_sub s_sub (o_var (i := 4) rfl (by first | exact Or.inl rfl | exact Or.inr (Or.inl rfl) | exact Or.inr (Or.inr rfl))) (o_var (i := 5) rfl (by first | exact Or.inl rfl | exact Or.inr (Or.inl rfl) | exact Or.inr (Or.inr rfl))))) (o_var (i := 1) rfl (by first | exact Or.inl rfl | exact Or.inr (Or.inl rfl) | exact Or.inr (Or.inr rfl))))) (o_var (i := 6) rfl (by first | exact Or.inl rfl | exact Or.inr (Or.inl rfl) | exact Or.inr (Or.inr rfl)))))) (xb_one (xs_ret (x_biT call_tuple_of s_tupO (by rfl) T.m_tuple b_tuple (xa_cons (o_var (i := 3) rfl (by first | exact Or.inl rfl | exact Or.inr (Or.inl rfl) | exact Or.inr (Or.inr rfl))) xa_nil)))))))
theorem ok_profile (T : Tx P w base K mg fd) {n : Nat} (I : Ih P w K mg base fd n) : FnOk P w K mg base CX0 (n + 1) (He.ga K "profile") (fd 21) P_profile (spI K (run (n + 1) "profile")) := by
  have nd := sc_profile.nd
  rw [run_profile]
  refine T.f_profile.ok sc_profile (fun vs H Q E h => spI_len rfl h) (fun cdv A outer s H vs Q E hr h => ⟨kS K (F_profile (run n)).body, PSs.nox ?_, fn_read rfl (show (2 : Nat) ≤ 5 by decide) h⟩)
  exact (xb_cons (xs_ex (x_call I.i_check_prime hr (by rfl) T.g_check_prime T.k_check_prime T.b_check_prime pass0 (xa_cons (o_var (i := 0) rfl (by first | exact Or.inl rfl | exact Or.inr (Or.inl rfl) | exact Or.inr (Or.inr rfl))) xa_nil))) (xb_cons (xs_ex (x_call I.i_check_row hr (by rfl) T.g_check_row T.k_check_row T.b_check_row pass0 (xa_cons (o_var (i := 0) rfl (by first | exact Or.inl rfl | exact Or.inr (Or.inl rfl) | exact Or.inr (Or.inr rfl))) (xa_cons (o_var (i := 1) rfl (by first | exact Or.inl rfl | exact Or.inr (Or.inl rfl) | exact Or.inr (Or.inr rfl))) xa_nil)))) (xb_cons (xs_callN (i := 2) nd rfl (by first | exact Or.inl rfl | exact Or.inr rfl) (x_mkN (by rcases run_Growth n with h | h; exact .inl h; exact .inr ⟨hr.mono h.1, h.2⟩) T.mkG T.i_init.choose_spec.1 (by rfl) T.g_Growth T.i_init.choose_spec.2 pass0 (xa_cons (o_var (i := 0) rfl (by first | exact Or.inl rfl | exact Or.inr (Or.inl rfl) | exact Or.inr (Or.inr rfl))) xa_nil))) (xb_cons (xs_set (i := 3) nd rfl (by first | exact Or.inl rfl | exact Or.inr rfl) (x_lst xa_nil)) (xb_cons (x_for PassesOwn.never rfl (xi_seq (o_v (x_var (i := 1) rfl (by first | exact Or.inl rfl | exact Or.inr (Or.inl rfl) | exact Or.inr (Or.inr rfl))))) (pg_name (i := 4) nd rfl (by first | exact Or.inl rfl | exact Or.inr rfl)) gs_nm (xb_cons (xs_ex (x_meth (i := 2) T.gt T.m_Growth_take gf_Growth_take I.i_Growth_take hr T.b_Growth_take pass0 (pe_var (i := 2) rfl (by first | exact Or.inl rfl | exact Or.inr (Or.inl rfl) | exact Or.inr (Or.inr rfl))) (xa_cons (o_var (i := 4) rfl (by first | exact Or.inl rfl | exact Or.inr (Or.inl rfl) | exact Or.inr (Or.inr rfl))) xa_nil))) (xb_one (xs_app (i := 3) (pe_var (i := 3) rfl (by first | exact Or.inl rfl | exact Or.inr (Or.inl rfl) | exact Or.inr (Or.inr rfl))) (x_fld (i := 2) (k := 2) T.gt (pe_var (i := 2) rfl (by first | exact Or.inl rfl | exact Or.inr (Or.inl rfl) | exact Or.inr (Or.inr rfl)))))))) (xb_one (xs_ret (x_biT call_tuple_of s_tupO (by rfl) T.m_tuple b_tuple (xa_cons (o_var (i := 3) rfl (by first | exact Or.inl rfl | exact Or.inr (Or.inl rfl) | exact Or.inr (Or.inr rfl))) xa_nil)))))))))
theorem ok__law_taken (T : Tx P w base K mg fd) {n : Nat} (I : Ih P w K mg base fd n) : FnOk P w K mg base CX0 (n + 1) (He.ga K "_law_taken") (fd 22) P__law_taken (spI K (run (n + 1) "_law_taken")) := by
  have nd := sc__law_taken.nd
  rw [run__law_taken]
  refine T.f__law_taken.ok sc__law_taken (fun vs H Q E h => spI_len rfl h) (fun cdv A outer s H vs Q E hr h => ⟨kS K (F__law_taken (run n)).body, PSs.nox ?_, fn_read rfl (show (2 : Nat) ≤ 4 by decide) h⟩)
  exact (xb_cons (xs_if (x_cmpT op_gt s_gt (o_v (x_ix ix_any s_ix (o_var (i := 0) rfl (by first | exact Or.inl rfl | exact Or.inr (Or.inl rfl) | exact Or.inr (Or.inr rfl))) (o_v x_int) (fun _ _ => rfl))) (o_v x_int) (nomark _)) (xb_cons (xs_set (i := 2) nd rfl (by first | exact Or.inl rfl | exact Or.inr rfl) (x_bin op_mod s_mod (o_v (x_biT call_int1 s_int1 (by rfl) T.m_int b_int (xa_cons (o_v (x_ix ix_any s_ix (o_var (i := 0) rfl (by first | exact Or.inl rfl | exact Or.inr (Or.inl rfl) | exact Or.inr (Or.inr rfl))) (o_v x_int) (fun _ _ => rfl))) xa_nil))) (o_var (i := 1) rfl (by first | exact Or.inl rfl | exact Or.inr (Or.inl rfl) | exact Or.inr (Or.inr rfl))))) (xb_cons (xs_setIx (i := 0) (pe_var (i := 0) rfl (by first | exact Or.inl rfl | exact Or.inr (Or.inl rfl) | exact Or.inr (Or.inr rfl))) (o_v x_int) (o_v (x_bin op_fdivA s_fdiv (o_v (x_ix ix_any s_ix (o_var (i := 0) rfl (by first | exact Or.inl rfl | exact Or.inr (Or.inl rfl) | exact Or.inr (Or.inr rfl))) (o_v x_int) (fun _ _ => rfl))) (o_var (i := 1) rfl (by first | exact Or.inl rfl | exact Or.inr (Or.inl rfl) | exact Or.inr (Or.inr rfl)))))) (xb_one (xs_ret (x_var (i := 2) rfl (by first | exact Or.inl rfl | exact Or.inr (Or.inl rfl) | exact Or.inr (Or.inr rfl))))))) xb_nil) (xb_cons (xs_setIx (i := 0) (pe_var (i := 0) rfl (by first | exact Or.inl rfl | exact Or.inr (Or.inl rfl) | exact Or.inr (Or.inr rfl))) (o_v x_int) (o_v (x_bin op_addA s_add (o_v (x_ix ix_any s_ix (o_var (i := 0) rfl (by first | exact Or.inl rfl | exact Or.inr (Or.inl rfl) | exact Or.inr (Or.inr rfl))) (o_v x_int) (fun _ _ => rfl))) (o_v x_int)))) (xb_cons (xs_if (x_cmpT op_gt s_gt (o_v (x_ix ix_any s_ix (o_var (i := 0) rfl (by first | exact Or.inl rfl | exact Or.inr (Or.inl rfl) | exact Or.inr (Or.inr rfl))) (o_v x_int) (fun _ _ => rfl))) (o_v (x_biB call_len_seq s_len (by rfl) T.m_len b_len (xa_cons (o_v (x_ix ix_any s_ix (o_var (i := 0) rfl (by first | exact Or.inl rfl | exact Or.inr (Or.inl rfl) | exact Or.inr (Or.inr rfl))) (o_v x_int) (fun _ _ => rfl))) xa_nil))) (nomark _)) (xb_cons (xs_setIx (i := 0) (pe_var (i := 0) rfl (by first | exact Or.inl rfl | exact Or.inr (Or.inl rfl) | exact Or.inr (Or.inr rfl))) (o_v x_int) (o_v (x_bin op_mod s_mod (o_v (x_biT call_int1 s_int1 (by rfl) T.m_int b_int (xa_cons (o_v (x_bin op_addA s_add (o_v (x_bin op_mulA s_mul (o_v (x_ix ix_any s_ix (o_var (i := 0) rfl (by first | exact Or.inl rfl | exact Or.inr (Or.inl rfl) | exact Or.inr (Or.inr rfl))) (o_v x_int) (fun _ _ => rfl))) (o_v x_int))) (o_v x_int))) xa_nil))) (o_v x_int)))) (xb_one (xs_ret (x_bin op_mod s_mod (o_v (x_biT call_int1 s_int1 (by rfl) T.m_int b_int (xa_cons (o_v (x_bin op_fdivA s_fdiv (o_v (x_ix ix_any s_ix (o_var (i := 0) rfl (by first | exact Or.inl rfl | exact Or.inr (Or.inl rfl) | exact Or.inr (Or.inr rfl))) (o_v x_int) (fun _ _ => rfl))) (o_v x_int))) xa_nil))) (o_var (i := 1) rfl (by first | exact Or.inl rfl | exact Or.inr (Or.inl rfl) | exact Or.inr (Or.inr rfl))))))) xb_nil) (xb_cons (xs_set (i := 3) nd rfl (by first | exact Or.inl rfl | exact Or.inr rfl) (x_ix ix_any s_ix (o_v (x_ix ix_any s_ix (o_var (i := 0) rfl (by first | exact Or.inl rfl | exact Or.inr (Or.inl rfl) | exact Or.inr (Or.inr rfl))) (o_v x_int) (fun _ _ => rfl))) (o_v (x_bin op_sub s_sub (o_v (x_ix ix_any s_ix (o_var (i := 0) rfl (by first | exact Or.inl rfl | exact Or.inr (Or.inl rfl) | exact Or.inr (Or.inr rfl))) (o_v x_int) (fun _ _ => rfl))) (o_v x_int))) (fun _ _ => rfl))) (xb_cons (xs_setIx (i := 0) (pe_var (i := 0) rfl (by first | exact Or.inl rfl | exact Or.inr (Or.inl rfl) | exact Or.inr (Or.inr rfl))) (o_v x_int) (o_v (x_bin op_mod s_mod (o_v (x_biT call_int1 s_int1 (by rfl) T.m_int b_int (xa_cons (o_v (x_bin op_addA s_add (o_v (x_bin op_addA s_add (o_v (x_bin op_mulA s_mul (o_v (x_ix ix_any s_ix (o_var (i := 0) rfl (by first | exact Or.inl rfl | exact Or.inr (Or.inl rfl) | exact Or.inr (Or.inr rfl))) (o_v x_int) (fun _ _ => rfl))) (o_v x_int))) (o_var (i := 3) rfl (by first | exact Or.inl rfl | exact Or.inr (Or.inl rfl) | exact Or.inr (Or.inr rfl))))) (o_v x_int))) xa_nil))) (o_v x_int)))) (xb_cons (xs_if (x_cmpT op_ge s_ge (o_var (i := 3) rfl (by first | exact Or.inl rfl | exact Or.inr (Or.inl rfl) | exact Or.inr (Or.inr rfl))) (o_v (x_bin op_pow s_pow (o_v x_int) (o_v x_int))) (nomark _)) (xb_one (xs_setIx (i := 0) (pe_var (i := 0) rfl (by first | exact Or.inl rfl | exact Or.inr (Or.inl rfl) | exact Or.inr (Or.inr rfl))) (o_v x_int) (o_v (x_bin op_fdivA s_fdiv (o_var (i := 3) rfl (by first | exact Or.inl rfl | exact Or.inr (Or.inl rfl) | exact Or.inr (Or.inr rfl))) (o_var (i := 1) rfl (by first | exact Or.inl rfl | exact Or.inr (Or.inl rfl) | exact Or.inr (Or.inr rfl))))))) xb_nil) (xb_one (xs_ret (x_bin op_mod s_mod (o_v (x_biT call_int1 s_int1 (by rfl) T.m_int b_int (xa_cons (o_var (i := 3) rfl (by first | exact Or.inl rfl | exact Or.inr (Or.inl rfl) | exact Or.inr (Or.inr rfl))) xa_nil))) (o_var (i := 1) rfl (by first | exact Or.inl rfl | exact Or.inr (Or.inl rfl) | exact Or.inr (Or.inr rfl))))))))))))
theorem ok__law_pick (T : Tx P w base K mg fd) {n : Nat} (I : Ih P w K mg base fd n) : FnOk P w K mg base CX0 (n + 1) (He.ga K "_law_pick") (fd 23) P__law_pick (spI K (run (n + 1) "_law_pick")) := by
  have nd := sc__law_pick.nd
  rw [run__law_pick]
  refine T.f__law_pick.ok sc__law_pick (fun vs H Q E h => spI_len rfl h) (fun cdv A outer s H vs Q E hr h => ⟨kS K (F__law_pick (run n)).body, PSs.nox ?_, fn_read rfl (show (2 : Nat) ≤ 2 by decide) h⟩)
  exact (xb_one (xs_ret (x_ix ix_any s_ix (o_var (i := 1) rfl (by first | exact Or.inl rfl | exact Or.inr (Or.inl rfl) | exact Or.inr (Or.inr rfl))) (o_v (x_callR (i := 0) I.i__law_taken hr (by rfl) T.g__law_taken T.k__law_taken T.b__law_taken pass0 (pe_var (i := 0) rfl (by first | exact Or.inl rfl | exact Or.inr (Or.inl rfl) | exact Or.inr (Or.inr rfl))) (xa_cons (o_v (x_biB call_len_seq s_len (by rfl) T.m_len b_len (xa_cons (o_var (i := 1) rfl (by first | exact Or.inl rfl | exact Or.inr (Or.inl rfl) | exact Or.inr (Or.inr rfl))) xa_nil))) xa_nil))) (fun _ _ => rfl))))
theorem ok__law_prime (T : Tx P w base K mg fd) {n : Nat} (I : Ih P w K mg base fd n) : FnOk P w K mg base CX0 (n + 1) (He.ga K "_law_prime") (fd 24) P__law_prime (spI K (run (n + 1) "_law_prime")) := by
  have nd := sc__law_prime.nd
  rw [run__law_prime]
  refine T.f__law_prime.ok sc__law_prime (fun vs H Q E h => spI_len rfl h) (fun cdv A outer s H vs Q E hr h => ⟨kS K (F__law_prime (run n)).body, PSs.nox ?_, fn_read rfl (show (1 : Nat) ≤ 1 by decide) h⟩)
  exact (xb_one (xs_ret (x_callR (i := 0) I.i__law_pick hr (by rfl) T.g__law_pick T.k__law_pick T.b__law_pick pass0 (pe_var (i := 0) rfl (by first | exact Or.inl rfl | exact Or.inr (Or.inl rfl) | exact Or.inr (Or.inr rfl))) (xa_cons (o_v (x_lst (xa_cons (o_v x_int) (xa_cons (o_v x_int) (xa_cons (o_v x_int) (xa_cons (o_v x_int) (xa_cons (o_v x_int) xa_nil))))))) xa_nil))))
theorem ok__law_alike (T : Tx P w base K mg fd) {n : Nat} (I : Ih P w K mg base fd n) : FnOk P w K mg base CX0 (n + 1) (He.ga K "_law_alike") (fd 25) P__law_alike (spI K (run (n + 1) "_law_alike")) := by
  have nd := sc__law_alike.nd
  rw [run__law_alike]
  refine T.f__law_alike.ok sc__law_alike (fun vs H Q E h => spI_len rfl h) (fun cdv A outer s H vs Q E hr h => ⟨kS K (F__law_alike (run n)).body, PSs.nox ?_, fn_read rfl (show (2 : Nat) ≤ 3 by decide) h⟩)
  exact (xb_cons (xs_if (x_truth (o_v (x_isiT (by simp) (by decide) (o_var (i := 1) rfl (by first | exact Or.inl rfl | exact Or.inr (Or.inl rfl) | exact Or.inr (Or.inr rfl))) (by rfl) T.m_isinstance b_isinstance (xty_cons (t := .tuple) (by rfl) T.m_tuple b_tuple (xty_cons (t := .list) (by rfl) T.m_list b_list xty_nil)))) (fun _ => rfl)) (xb_cons (xs_if (PW.pt (x_or (x_not (x_truth (o_v (x_isiT (by simp) (by decide) (o_var (i := 0) rfl (by first | exact Or.inl rfl | exact Or.inr (Or.inl rfl) | exact Or.inr (Or.inr rfl))) (by rfl) T.m_isinstance b_isinstance (xty_cons (t := .tuple) (by rfl) T.m_tuple b_tuple (xty_cons (t := .list) (by rfl) T.m_list b_list xty_nil)))) (fun _ => rfl))) (pw_or1 (x_cmpT (op_neD hr.units) s_ne (o_v (x_isi1 (t := .list) (o_var (i := 0) rfl (by first | exact Or.inl rfl | exact Or.inr (Or.inl rfl) | exact Or.inr (Or.inr rfl))) (by rfl) T.m_isinstance b_isinstance (by rfl) T.m_list b_list)) (o_v (x_isi1 (t := .list) (o_var (i := 1) rfl (by first | exact Or.inl rfl | exact Or.inr (Or.inl rfl) | exact Or.inr (Or.inr rfl))) (by rfl) T.m_isinstance b_isinstance (by rfl) T.m_list b_list)) (nomark _))))) (xb_one (xs_ret x_bl)) xb_nil) (xb_cons (xs_if (x_cmpT (op_neD hr.units) s_ne (o_v (x_biB call_len_seq s_len (by rfl) T.m_len b_len (xa_cons (o_var (i := 0) rfl (by first | exact Or.inl rfl | exact Or.inr (Or.inl rfl) | exact Or.inr (Or.inr rfl))) xa_nil))) (o_v (x_biB call_len_seq s_len (by rfl) T.m_len b_len (xa_cons (o_var (i := 1) rfl (by first | exact Or.inl rfl | exact Or.inr (Or.inl rfl) | exact Or.inr (Or.inr rfl))) xa_nil))) (nomark _)) (xb_one (xs_ret x_bl)) xb_nil) (xb_one (xs_ret (x_cmp (op_eqD hr.units) s_eq (o_v (x_lc (own := [("k", 2)]) rfl nd (xi_range1 (by rfl) T.m_range (o_v (x_biB call_len_seq s_len (by rfl) T.m_len b_len (xa_cons (o_var (i := 1) rfl (by first | exact Or.inl rfl | exact Or.inr (Or.inl rfl) | exact Or.inr (Or.inr rfl))) xa_nil)))) (blkOk_by (own := [("k", 2)]) (N := N__law_alike) (sc := defScope (topS 37)) (by decide +kernel)) gs_nm (by simp [Tg.slots]) (fun _ _ _ _ _ => pg_name (i := 2) nd rfl (by first | exact Or.inl rfl | exact Or.inr rfl)) (fun _ _ _ _ _ => (xts_one (x_not (x_truth (o_v (x_call I.i__law_alike hr (by rfl) T.g__law_alike T.k__law_alike T.b__law_alike pass0 (xa_cons (o_v (x_ix ix_any s_ix (o_var (i := 0) rfl (by first | exact Or.inl rfl | exact Or.inr (Or.inl rfl) | exact Or.inr (Or.inr rfl))) (o_var (i := 2) rfl (by first | exact Or.inl rfl | exact Or.inr (Or.inl rfl) | exact Or.inr (Or.inr rfl))) (fun _ _ => rfl))) (xa_cons (o_v (x_ix ix_any s_ix (o_var (i := 1) rfl (by first | exact Or.inl rfl | exact Or.inr (Or.inl rfl) | exact Or.inr (Or.inr rfl))) (o_var (i := 2) rfl (by first | exact Or.inl rfl | exact Or.inr (Or.inl rfl) | exact Or.inr (Or.inr rfl))) (fun _ _ => rfl))) xa_nil)))) (fun _ => rfl))))) (fun _ _ _ _ _ => (x_var (i := 2) rfl (by first | exact Or.inl rfl | exact Or.inr (Or.inl rfl) | exact Or.inr (Or.inr rfl)))))) (o_v (x_lst xa_nil)) (nomark _)))))) xb_nil) (xb_cons (xs_if (PW.pt (x_or (x_isNT (o_var (i := 1) rfl (by first | exact Or.inl rfl | exact Or.inr (Or.inl rfl) | exact Or.inr (Or.inr rfl)))) (pw_or1 (x_truth (o_v (x_isi1 (t := .str) (o_var (i := 1) rfl (by first | exact Or.inl rfl | exact Or.inr (Or.inl rfl) | exact Or.inr (Or.inr rfl))) (by rfl) T.m_isinstance b_isinstance (by rfl) T.m_str b_str)) (fun _ => rfl))))) (xb_one (xs_ret (x_andV (x_cmp (op_eqD hr.units) s_eq (o_var (i := 0) rfl (by first | exact Or.inl rfl | exact Or.inr (Or.inl rfl) | exact Or.inr (Or.inr rfl))) (o_var (i := 1) rfl (by first | exact Or.inl rfl | exact Or.inr (Or.inl rfl) | exact Or.inr (Or.inr rfl))) (nomark _)) (pe_one (x_cmp (op_eqD hr.units) s_eq (o_v (x_isi1 (t := .str) (o_var (i := 0) rfl (by first | exact Or.inl rfl | exact Or.inr (Or.inl rfl) | exact Or.inr (Or.inr rfl))) (by rfl) T.m_isinstance b_isinstance (by rfl) T.m_str b_str)) (o_v (x_isi1 (t := .str) (o_var (i := 1) rfl (by first | exact Or.inl rfl | exact Or.inr (Or.inl rfl) | exact Or.inr (Or.inr rfl))) (by rfl) T.m_isinstance b_isinstance (by rfl) T.m_str b_str)) (nomark _)))))) xb_nil) (xb_one (xs_ret (x_andV (x_isi1 (t := .int) (o_var (i := 0) rfl (by first | exact Or.inl rfl | exact Or.inr (Or.inl rfl) | exact Or.inr (Or.inr rfl))) (by rfl) T.m_isinstance b_isinstance (by rfl) T.m_int b_int) (x_andV (x_cmp (op_eqD hr.units) s_eq (o_v (x_isi1 (t := .bool) (o_var (i := 0) rfl (by first | exact Or.inl rfl | exact Or.inr (Or.inl rfl) | exact Or.inr (Or.inr rfl))) (by rfl) T.m_isinstance b_isinstance (by rfl) T.m_bool b_bool)) (o_v (x_isi1 (t := .bool) (o_var (i := 1) rfl (by first | exact Or.inl rfl | exact Or.inr (Or.inl rfl) | exact Or.inr (Or.inr rfl))) (by rfl) T.m_isinstance b_isinstance (by rfl) T.m_bool b_bool)) (nomark _)) (pe_one (x_cmp (op_eqD hr.units) s_eq (o_var (i := 0) rfl (by first | exact Or.inl rfl | exact Or.inr (Or.inl rfl) | exact Or.inr (Or.inr rfl))) (o_var (i := 1) rfl (by first | exact Or.inl rfl | exact Or.inr (Or.inl rfl) | exact Or.inr (Or.inr rfl))) (nomark _)))))))))
theorem ok__law_are_numbers (T : Tx P w base K mg fd) {n : Nat} (I : Ih P w K mg base fd n) : FnOk P w K mg base CX0 (n + 1) (He.ga K "_law_are_numbers") (fd 26) P__law_are_numbers (spI K (run (n + 1) "_law_are_numbers")) := by
  have nd := sc__law_are_numbers.nd
  rw [run__law_are_numbers]
  refine T.f__law_are_numbers.ok sc__law_are_numbers (fun vs H Q E h => spI_len rfl h) (fun cdv A outer s H vs Q E hr h => ⟨kS K (F__law_are_numbers (run n)).body, PSs.nox ?_, fn_read rfl (show (3 : Nat) ≤ 5 by decide) h⟩)
  exact (xb_cons (xs_if (PW.pt (x_or (x_not (x_truth (o_v (x_isi1 (t := .tuple) (o_var (i := 1) rfl (by first | exact Or.inl rfl | exact Or.inr (Or.inl rfl) | exact Or.inr (Or.inr rfl))) (by rfl) T.m_isinstance b_isinstance (by rfl) T.m_tuple b_tuple)) (fun _ => rfl))) (pw_or1 (x_cmpT (op_neD hr.units) s_ne (o_v (x_biB call_len_seq s_len (by rfl) T.m_len b_len (xa_cons (o_var (i := 1) rfl (by first | exact Or.inl rfl | exact Or.inr (Or.inl rfl) | exact Or.inr (Or.inr rfl))) xa_nil))) (o_var (i := 2) rfl (by first | exact Or.inl rfl | exact Or.inr (Or.inl rfl) | exact Or.inr (Or.inr rfl))) (nomark _))))) (xb_one (xs_ret x_bl)) xb_nil) (xb_cons (xs_setLc (i := 3) (own := [("entry", 4)]) rfl nd rfl rfl (sw_true rfl rfl rfl (by decide +kernel)) (xi_seq (o_var (i := 1) rfl (by first | exact Or.inl rfl | exact Or.inr (Or.inl rfl) | exact Or.inr (Or.inr rfl)))) (blkOk_by (own := [("entry", 4)]) (N := N__law_are_numbers) (sc := defScope (topS 38)) (by decide +kernel)) gs_nm (by simp [Tg.slots]) (fun _ _ _ _ _ => pg_name (i := 4) nd rfl (by first | exact Or.inl rfl | exact Or.inr rfl)) (fun _ _ _ _ _ => (xts_one (PW.pt (x_or (x_not (x_truth (o_v (x_isi1 (t := .int) (o_var (i := 4) rfl (by first | exact Or.inl rfl | exact Or.inr (Or.inl rfl) | exact Or.inr (Or.inr rfl))) (by rfl) T.m_isinstance b_isinstance (by rfl) T.m_int b_int)) (fun _ => rfl))) (pw_or1 (x_truth (o_v (x_isi1 (t := .bool) (o_var (i := 4) rfl (by first | exact Or.inl rfl | exact Or.inr (Or.inl rfl) | exact Or.inr (Or.inr rfl))) (by rfl) T.m_isinstance b_isinstance (by rfl) T.m_bool b_bool)) (fun _ => rfl))))))) (fun _ _ _ _ _ => (x_var (i := 4) rfl (by first | exact Or.inl rfl | exact Or.inr (Or.inl rfl) | exact Or.inr (Or.inr rfl))))) (xb_one (xs_ret (x_andV (x_cmp (op_eqD hr.units) s_eq (o_var (i := 3) rfl (by first | exact Or.inl rfl | exact Or.inr (Or.inl rfl) | exact Or.inr (Or.inr rfl))) (o_v (x_lst xa_nil)) (nomark _)) (pe_one (x_cmp (op_eqD hr.units) s_eq (o_v (x_lc (own := [("entry", 4)]) rfl nd (xi_seq (o_var (i := 1) rfl (by first | exact Or.inl rfl | exact Or.inr (Or.inl rfl) | exact Or.inr (Or.inr rfl)))) (blkOk_by (own := [("entry", 4)]) (N := N__law_are_numbers) (sc := defScope (topS 38)) (by decide +kernel)) gs_nm (by simp [Tg.slots]) (fun _ _ _ _ _ => pg_name (i := 4) nd rfl (by first | exact Or.inl rfl | exact Or.inr rfl)) (fun _ _ _ _ _ => (xts_one (x_not (x_chainT op_le op_lt s_le s_lt (o_v x_int) (o_var (i := 4) rfl (by first | exact Or.inl rfl | exact Or.inr (Or.inl rfl) | exact Or.inr (Or.inr rfl))) (o_var (i := 0) rfl (by first | exact Or.inl rfl | exact Or.inr (Or.inl rfl) | exact Or.inr (Or.inr rfl))))))) (fun _ _ _ _ _ => (x_var (i := 4) rfl (by first | exact Or.inl rfl | exact Or.inr (Or.inl rfl) | exact Or.inr (Or.inr rfl)))))) (o_v (x_lst xa_nil)) (nomark _))))))))
theorem ok_law (T : Tx P w base K mg fd) {n : Nat} (I : Ih P w K mg base fd n) : FnOk P w K mg base CX0 (n + 1) (He.ga K "law") (fd 27) P_law (spI K (run (n + 1) "law")) := by
  have nd := sc_law.nd
  rw [run_law]
  refine T.f_law.ok sc_law (fun vs H Q E h => spI_len rfl h) (fun cdv A outer s H vs Q E hr h => ⟨kS K (F_law (run n)).body, PSs.nox ?_, fn_read rfl (show (1 : Nat) ≤ 14 by decide) h⟩)
  exact (xb_cons (xs_set (i := 1) nd rfl (by first | exact Or.inl rfl | exact Or.inr rfl) (x_lst (xa_cons (o_var (i := 0) rfl (by first | exact Or.inl rfl | exact Or.inr (Or.inl rfl) | exact Or.inr (Or.inr rfl))) (xa_cons (o_v x_int) (xa_cons (o_v x_int) (xa_cons (o_v x_int) xa_nil)))))) (xb_cons (xs_unp (pg_tup rfl (pgs_cons (pg_name (i := 2) nd rfl (by first | exact Or.inl rfl | exact Or.inr rfl)) (pgs_cons (pg_name (i := 3) nd rfl (by first | exact Or.inl rfl | exact Or.inr rfl)) pgs_nil))) rfl (GSs.cons (GSs.cons GSs.nil)) (x_tup (xa_cons (o_v (x_callR (i := 1) I.i__law_prime hr (by rfl) T.g__law_prime T.k__law_prime T.b__law_prime pass0 (pe_var (i := 1) rfl (by first | exact Or.inl rfl | exact Or.inr (Or.inl rfl) | exact Or.inr (Or.inr rfl))) xa_nil)) (xa_cons (o_v (x_bin op_addA s_add (o_v x_int) (o_v (x_callR (i := 1) I.i__law_taken hr (by rfl) T.g__law_taken T.k__law_taken T.b__law_taken pass0 (pe_var (i := 1) rfl (by first | exact Or.inl rfl | exact Or.inr (Or.inl rfl) | exact Or.inr (Or.inr rfl))) (xa_cons (o_v x_int) xa_nil))))) xa_nil)))) (xb_cons (xs_set (i := 4) nd rfl (by first | exact Or.inl rfl | exact Or.inr rfl) (x_bin op_addA s_add (o_v x_int) (o_v (x_callR (i := 1) I.i__law_taken hr (by rfl) T.g__law_taken T.k__law_taken T.b__law_taken pass0 (pe_var (i := 1) rfl (by first | exact Or.inl rfl | exact Or.inr (Or.inl rfl) | exact Or.inr (Or.inr rfl))) (xa_cons (o_v (x_bin op_sub s_sub (o_var (i := 2) rfl (by first | exact Or.inl rfl | exact Or.inr (Or.inl rfl) | exact Or.inr (Or.inr rfl))) (o_v x_int))) xa_nil))))) (xb_cons (xs_set (i := 5) nd rfl (by first | exact Or.inl rfl | exact Or.inr rfl) (x_bin op_addA s_add (o_v (x_bin op_mulA s_mul (o_v (x_tup (xa_cons (o_v x_int) xa_nil))) (o_var (i := 3) rfl (by first | exact Or.inl rfl | exact Or.inr (Or.inl rfl) | exact Or.inr (Or.inr rfl))))) (o_v (x_tup (xa_cons (o_var (i := 4) rfl (by first | exact Or.inl rfl | exact Or.inr (Or.inl rfl) | exact Or.inr (Or.inr rfl))) xa_nil))))) (xb_cons (xs_if (x_not (x_truth (o_v (x_call I.i__law_alike hr (by rfl) T.g__law_alike T.k__law_alike T.b__law_alike pass0 (xa_cons (o_v (x_call I.i_profile hr (by rfl) T.g_profile T.k_profile T.b_profile pass0 (xa_cons (o_var (i := 2) rfl (by first | exact Or.inl rfl | exact Or.inr (Or.inl rfl) | exact Or.inr (Or.inr rfl))) (xa_cons (o_var (i := 5) rfl (by first | exact Or.inl rfl | exact Or.inr (Or.inl rfl) | exact Or.inr (Or.inr rfl))) xa_nil)))) (xa_cons (o_v (x_bin op_addA s_add (o_v (x_bin op_mulA s_mul (o_v (x_tup (xa_cons (o_v x_int) xa_nil))) (o_var (i := 3) rfl (by first | exact Or.inl rfl | exact Or.inr (Or.inl rfl) | exact Or.inr (Or.inr rfl))))) (o_v (x_tup (xa_cons (o_v (x_bin op_addA s_add (o_var (i := 3) rfl (by first | exact Or.inl rfl | exact Or.inr (Or.inl rfl) | exact Or.inr (Or.inr rfl))) (o_v x_int))) xa_nil))))) xa_nil)))) (fun _ => rfl))) (xb_one (xs_ret x_bl)) xb_nil) (xb_cons (xs_set (i := 6) nd rfl (by first | exact Or.inl rfl | exact Or.inr rfl) (x_call I.i_lower_bound hr (by rfl) T.g_lower_bound T.k_lower_bound T.b_lower_bound pass0 (xa_cons (o_var (i := 2) rfl (by first | exact Or.inl rfl | exact Or.inr (Or.inl rfl) | exact Or.inr (Or.inr rfl))) (xa_cons (o_var (i := 5) rfl (by first | exact Or.inl rfl | exact Or.inr (Or.inl rfl) | exact Or.inr (Or.inr rfl))) (xa_cons (o_var (i := 3) rfl (by first | exact Or.inl rfl | exact Or.inr (Or.inl rfl) | exact Or.inr (Or.inr rfl))) xa_nil))))) (xb_cons (xs_if (PW.pt (x_or (x_not (x_truth (o_v (x_call I.i__law_are_numbers hr (by rfl) T.g__law_are_numbers T.k__law_are_numbers T.b__law_are_numbers pass0 (xa_cons (o_var (i := 2) rfl (by first | exact Or.inl rfl | exact Or.inr (Or.inl rfl) | exact Or.inr (Or.inr rfl))) (xa_cons (o_var (i := 6) rfl (by first | exact Or.inl rfl | exact Or.inr (Or.inl rfl) | exact Or.inr (Or.inr rfl))) (xa_cons (o_v x_int) xa_nil))))) (fun _ => rfl))) (pw_or1 (x_cmpT (op_eqD hr.units) s_eq (o_var (i := 6) rfl (by first | exact Or.inl rfl | exact Or.inr (Or.inl rfl) | exact Or.inr (Or.inr rfl))) (o_v (x_tup (xa_cons (o_v x_int) xa_nil))) (nomark _))))) (xb_one (xs_ret x_bl)) xb_nil) (xb_cons (xs_if (x_not (x_truth (o_v (x_call I.i__law_alike hr (by rfl) T.g__law_alike T.k__law_alike T.b__law_alike pass0 (xa_cons (o_v (x_call I.i_profile hr (by rfl) T.g_profile T.k_profile T.b_profile pass0 (xa_cons (o_var (i := 2) rfl (by first | exact Or.inl rfl | exact Or.inr (Or.inl rfl) | exact Or.inr (Or.inr rfl))) (xa_cons (o_v (x_bin op_mulA s_mul (o_v (x_tup (xa_cons (o_v x_int) xa_nil))) (o_var (i := 3) rfl (by first | exact Or.inl rfl | exact Or.inr (Or.inl rfl) | exact Or.inr (Or.inr rfl))))) xa_nil)))) (xa_cons (o_v (x_bin op_mulA s_mul (o_v (x_tup (xa_cons (o_v x_int) xa_nil))) (o_var (i := 3) rfl (by first | exact Or.inl rfl | exact Or.inr (Or.inl rfl) | exact Or.inr (Or.inr rfl))))) xa_nil)))) (fun _ => rfl))) (xb_one (xs_ret x_bl)) xb_nil) (xb_cons (xs_par (i := 7) (j := 6) rfl nd rfl rfl (by decide) rfl rfl (x_callR (i := 1) I.i__law_taken hr (by rfl) T.g__law_taken T.k__law_taken T.b__law_taken pass0 (pe_var (i := 1) rfl (by first | exact Or.inl rfl | exact Or.inr (Or.inl rfl) | exact Or.inr (Or.inr rfl))) (xa_cons (o_var (i := 2) rfl (by first | exact Or.inl rfl | exact Or.inr (Or.inl rfl) | exact Or.inr (Or.inr rfl))) xa_nil)) (x_lst (xa_cons (o_var (i := 4) rfl (by first | exact Or.inl rfl | exact Or.inr (Or.inl rfl) | exact Or.inr (Or.inr rfl))) xa_nil)) (by rfl)) (xb_cons (x_for PassesOwn.never rfl (xi_range1 (by rfl) T.m_range (o_var (i := 3) rfl (by first | exact Or.inl rfl | exact Or.inr (Or.inl rfl) | exact Or.inr (Or.inr rfl)))) (pg_name (i := 8) nd rfl (by first | exact Or.inl rfl | exact Or.inr rfl)) gs_nm (xb_one (xs_app (i := 6) (pe_var (i := 6) rfl (by first | exact Or.inl rfl | exact Or.inr (Or.inl rfl) | exact Or.inr (Or.inr rfl))) (x_bin op_mod s_mod (o_v (x_biT call_int1 s_int1 (by rfl) T.m_int b_int (xa_cons (o_v (x_bin op_mulA s_mul (o_v (x_ix ix_any s_ix (o_var (i := 6) rfl (by first | exact Or.inl rfl | exact Or.inr (Or.inl rfl) | exact Or.inr (Or.inr rfl))) (o_v (x_un un_neg s_neg (o_v x_int))) (fun _ _ => rfl))) (o_var (i := 7) rfl (by first | exact Or.inl rfl | exact Or.inr (Or.inl rfl) | exact Or.inr (Or.inr rfl))))) xa_nil))) (o_var (i := 2) rfl (by first | exact Or.inl rfl | exact Or.inr (Or.inl rfl) | exact Or.inr (Or.inr rfl))))))) (xb_cons (xs_if (x_not (x_truth (o_v (x_call I.i__law_alike hr (by rfl) T.g__law_alike T.k__law_alike T.b__law_alike pass0 (xa_cons (o_v (x_call I.i_all_shortest hr (by rfl) T.g_all_shortest T.k_all_shortest T.b_all_shortest pass0 (xa_cons (o_var (i := 2) rfl (by first | exact Or.inl rfl | exact Or.inr (Or.inl rfl) | exact Or.inr (Or.inr rfl))) (xa_cons (o_v (x_biT call_tuple_of s_tupO (by rfl) T.m_tuple b_tuple (xa_cons (o_var (i := 6) rfl (by first | exact Or.inl rfl | exact Or.inr (Or.inl rfl) | exact Or.inr (Or.inr rfl))) xa_nil))) xa_nil)))) (xa_cons (o_v (x_lst (xa_cons (o_v (x_tup (xa_cons (o_var (i := 7) rfl (by first | exact Or.inl rfl | exact Or.inr (Or.inl rfl) | exact Or.inr (Or.inr rfl))) xa_nil))) xa_nil))) xa_nil)))) (fun _ => rfl))) (xb_one (xs_ret x_bl)) xb_nil) (xb_cons (xs_set (i := 9) nd rfl (by first | exact Or.inl rfl | exact Or.inr rfl) (x_callR (i := 1) I.i__law_taken hr (by rfl) T.g__law_taken T.k__law_taken T.b__law_taken pass0 (pe_var (i := 1) rfl (by first | exact Or.inl rfl | exact Or.inr (Or.inl rfl) | exact Or.inr (Or.inr rfl))) (xa_cons (o_var (i := 2) rfl (by first | exact Or.inl rfl | exact Or.inr (Or.inl rfl) | exact Or.inr (Or.inr rfl))) xa_nil))) (xb_cons (xs_set (i := 6) nd rfl (by first | exact Or.inl rfl | exact Or.inr rfl) (x_biT call_tuple_of s_tupO (by rfl) T.m_tuple b_tuple (xa_cons (o_v (x_lc (own := [("at", 8)]) rfl nd (xi_range1 (by rfl) T.m_range (o_v (x_bin op_addA s_add (o_var (i := 3) rfl (by first | exact Or.inl rfl | exact Or.inr (Or.inl rfl) | exact Or.inr (Or.inr rfl))) (o_v x_int)))) (blkOk_by (own := [("at", 8)]) (N := N_law) (sc := defScope (topS 39)) (by decide +kernel)) gs_nm (by simp [Tg.slots]) (fun _ _ _ _ _ => pg_name (i := 8) nd rfl (by first | exact Or.inl rfl | exact Or.inr rfl)) (fun _ _ _ _ _ => xts_nil) (fun _ _ _ _ _ => (x_bin op_mod s_mod (o_v (x_biT call_int1 s_int1 (by rfl) T.m_int b_int (xa_cons (o_v (x_bin op_addA s_add (o_var (i := 4) rfl (by first | exact Or.inl rfl | exact Or.inr (Or.inl rfl) | exact Or.inr (Or.inr rfl))) (o_v (x_bin op_mulA s_mul (o_var (i := 9) rfl (by first | exact Or.inl rfl | exact Or.inr (Or.inl rfl) | exact Or.inr (Or.inr rfl))) (o_var (i := 8) rfl (by first | exact Or.inl rfl | exact Or.inr (Or.inl rfl) | exact Or.inr (Or.inr rfl))))))) xa_nil))) (o_var (i := 2) rfl (by first | exact Or.inl rfl | exact Or.inr (Or.inl rfl) | exact Or.inr (Or.inr rfl))))))) xa_nil))) (xb_cons (xs_set (i := 10) nd rfl (by first | exact Or.inl rfl | exact Or.inr rfl) (x_ite (x_cmpT op_gt s_gt (o_var (i := 9) rfl (by first | exact Or.inl rfl | exact Or.inr (Or.inl rfl) | exact Or.inr (Or.inr rfl))) (o_v x_int) (nomark _)) (x_tup (xa_cons (o_v (x_bin op_mod s_mod (o_v x_int) (o_var (i := 2) rfl (by first | exact Or.inl rfl | exact Or.inr (Or.inl rfl) | exact Or.inr (Or.inr rfl))))) (xa_cons (o_v (x_bin op_sub s_sub (o_var (i := 2) rfl (by first | exact Or.inl rfl | exact Or.inr (Or.inl rfl) | exact Or.inr (Or.inr rfl))) (o_v x_int))) xa_nil))) (x_tup (xa_cons (o_v x_int) xa_nil)))) (xb_cons (xs_if (x_not (x_truth (o_v (x_call I.i__law_alike hr (by rfl) T.g__law_alike T.k__law_alike T.b__law_alike pass0 (xa_cons (o_v (x_call I.i_shortest hr (by rfl) T.g_shortest T.k_shortest T.b_shortest pass0 (xa_cons (o_var (i := 2) rfl (by first | exact Or.inl rfl | exact Or.inr (Or.inl rfl) | exact Or.inr (Or.inr rfl))) (xa_cons (o_var (i := 6) rfl (by first | exact Or.inl rfl | exact Or.inr (Or.inl rfl) | exact Or.inr (Or.inr rfl))) xa_nil)))) (xa_cons (o_var (i := 10) rfl (by first | exact Or.inl rfl | exact Or.inr (Or.inl rfl) | exact Or.inr (Or.inr rfl))) xa_nil)))) (fun _ => rfl))) (xb_one (xs_ret x_bl)) xb_nil) (xb_cons (xs_set (i := 11) nd rfl (by first | exact Or.inl rfl | exact Or.inr rfl) (x_biT call_tuple_of s_tupO (by rfl) T.m_tuple b_tuple (xa_cons (o_v (x_lc (own := [("at", 8)]) rfl nd (xi_range1 (by rfl) T.m_range (o_v (x_bin op_addA s_add (o_var (i := 3) rfl (by first | exact Or.inl rfl | exact Or.inr (Or.inl rfl) | exact Or.inr (Or.inr rfl))) (o_v x_int)))) (blkOk_by (own := [("at", 8)]) (N := N_law) (sc := defScope (topS 39)) (by decide +kernel)) gs_nm (by simp [Tg.slots]) (fun _ _ _ _ _ => pg_name (i := 8) nd rfl (by first | exact Or.inl rfl | exact Or.inr rfl)) (fun _ _ _ _ _ => xts_nil) (fun _ _ _ _ _ => (x_bin op_mod s_mod (o_v (x_biT call_int1 s_int1 (by rfl) T.m_int b_int (xa_cons (o_v (x_bin op_mulA s_mul (o_var (i := 8) rfl (by first | exact Or.inl rfl | exact Or.inr (Or.inl rfl) | exact Or.inr (Or.inr rfl))) (o_var (i := 8) rfl (by first | exact Or.inl rfl | exact Or.inr (Or.inl rfl) | exact Or.inr (Or.inr rfl))))) xa_nil))) (o_var (i := 2) rfl (by first | exact Or.inl rfl | exact Or.inr (Or.inl rfl) | exact Or.inr (Or.inr rfl))))))) xa_nil))) (xb_cons (xs_set (i := 12) nd rfl (by first | exact Or.inl rfl | exact Or.inr rfl) (x_ite (x_cmpT op_gt s_gt (o_var (i := 2) rfl (by first | exact Or.inl rfl | exact Or.inr (Or.inl rfl) | exact Or.inr (Or.inr rfl))) (o_v x_int) (nomark _)) x_int x_int)) (xb_cons (xs_if (x_not (x_truth (o_v (x_call I.i__law_alike hr (by rfl) T.g__law_alike T.k__law_alike T.b__law_alike pass0 (xa_cons (o_v (x_call I.i_least_length hr (by rfl) T.g_least_length T.k_least_length T.b_least_length pass0 (xa_cons (o_var (i := 2) rfl (by first | exact Or.inl rfl | exact Or.inr (Or.inl rfl) | exact Or.inr (Or.inr rfl))) (xa_cons (o_var (i := 11) rfl (by first | exact Or.inl rfl | exact Or.inr (Or.inl rfl) | exact Or.inr (Or.inr rfl))) xa_nil)))) (xa_cons (o_var (i := 12) rfl (by first | exact Or.inl rfl | exact Or.inr (Or.inl rfl) | exact Or.inr (Or.inr rfl))) xa_nil)))) (fun _ => rfl))) (xb_one (xs_ret x_bl)) xb_nil) (xb_cons (xs_set (i := 13) nd rfl (by first | exact Or.inl rfl | exact Or.inr rfl) (x_biT call_tuple_of s_tupO (by rfl) T.m_tuple b_tuple (xa_cons (o_v (x_lc (own := [("at", 8)]) rfl nd (xi_range1 (by rfl) T.m_range (o_v (x_bin op_mulA s_mul (o_v x_int) (o_var (i := 3) rfl (by first | exact Or.inl rfl | exact Or.inr (Or.inl rfl) | exact Or.inr (Or.inr rfl)))))) (blkOk_by (own := [("at", 8)]) (N := N_law) (sc := defScope (topS 39)) (by decide +kernel)) gs_nm (by simp [Tg.slots]) (fun _ _ _ _ _ => pg_name (i := 8) nd rfl (by first | exact Or.inl rfl | exact Or.inr rfl)) (fun _ _ _ _ _ => xts_nil) (fun _ _ _ _ _ => (x_biT call_int1 s_int1 (by rfl) T.m_int b_int (xa_cons (o_v (x_cmp (op_eqD hr.units) s_eq (o_v (x_bin op_mod s_mod (o_v (x_biT call_int1 s_int1 (by rfl) T.m_int b_int (xa_cons (o_var (i := 8) rfl (by first | exact Or.inl rfl | exact Or.inr (Or.inl rfl) | exact Or.inr (Or.inr rfl))) xa_nil))) (o_var (i := 3) rfl (by first | exact Or.inl rfl | exact Or.inr (Or.inl rfl) | exact Or.inr (Or.inr rfl))))) (o_v x_int) (nomark _))) xa_nil))))) xa_nil))) (xb_one (xs_ret (x_call I.i__law_alike hr (by rfl) T.g__law_alike T.k__law_alike T.b__law_alike pass0 (xa_cons (o_v (x_call I.i_least_length hr (by rfl) T.g_least_length T.k_least_length T.b_least_length pass0 (xa_cons (o_var (i := 2) rfl (by first | exact Or.inl rfl | exact Or.inr (Or.inl rfl) | exact Or.inr (Or.inr rfl))) (xa_cons (o_var (i := 13) rfl (by first | exact Or.inl rfl | exact Or.inr (Or.inl rfl) | exact Or.inr (Or.inr rfl))) xa_nil)))) (xa_cons (o_var (i := 3) rfl (by first | exact Or.inl rfl | exact Or.inr (Or.inl rfl) | exact Or.inr (Or.inr rfl))) xa_nil))))))))))))))))))))))))
theorem ih_zero : Ih P w K mg base fd 0 where
  i_power_of := fn_none
  i_inverse := fn_none
  i_is_between := fn_none
  i_are_numbers := fn_none
  i_check_prime := fn_none
  i_check_number := fn_none
  i_check_row := fn_none
  i_taps_of_low := fn_none
  i_Growth_expected := fnG_none
  i_Growth_may_jump := fnG_none
  i_Growth_take := fnG_none
  i_Growth_taps := fnG_none
  i_Growth__corrected := fnG_none
  i_grown := fnN_none
  i_least_length := fn_none
  i_shortest := fn_none
  i_all_shortest := fn_none
  i_lower_bound := fn_none
  i__check := fn_none
  i__changed := fn_none
  i__weights := fnG_none
  i_profile := fn_none
  i__law_taken := fn_none
  i__law_pick := fn_none
  i__law_prime := fn_none
  i__law_alike := fn_none
  i__law_are_numbers := fn_none
  i_law := fn_none
theorem ih_all (T : Tx P w base K mg fd) : ∀ n, Ih P w K mg base fd n
  | 0 => ih_zero
  | n + 1 =>
    have I := ih_all T n
    {
      i_power_of := ok_power_of T I
      i_inverse := ok_inverse T I
      i_is_between := ok_is_between T I
      i_are_numbers := ok_are_numbers T I
      i_check_prime := ok_check_prime T I
      i_check_number := ok_check_number T I
      i_check_row := ok_check_row T I
      i_taps_of_low := ok_taps_of_low T I
      i_Growth_expected := ok_Growth_expected T I
      i_Growth_may_jump := ok_Growth_may_jump T I
      i_Growth_take := ok_Growth_take T I
      i_Growth_taps := ok_Growth_taps T I
      i_Growth__corrected := ok_Growth__corrected T I
      i_grown := ok_grown T I
      i_least_length := ok_least_length T I
      i_shortest := ok_shortest T I
      i_all_shortest := ok_all_shortest T I
      i_lower_bound := ok_lower_bound T I
      i__check := ok__check T I
      i__changed := ok__changed T I
      i__weights := ok__weights T I
      i_profile := ok_profile T I
      i__law_taken := ok__law_taken T I
      i__law_pick := ok__law_pick T I
      i__law_prime := ok__law_prime T I
      i__law_alike := ok__law_alike T I
      i__law_are_numbers := ok__law_are_numbers T I
      i_law := ok_law T I
    }
end
/-! ### the head -/
def d_power_of : He.DefD := ⟨("power_of", none), "power_of", "power_of", defArgs (topS 7), defBody (topS 7), defScope (topS 7), [], []⟩
def d_inverse : He.DefD := ⟨("inverse", none), "inverse", "inverse", defArgs (topS 8), defBody (topS 8), defScope (topS 8), [], []⟩
def d_is_between : He.DefD := ⟨("is_between", none), "is_between", "is_between", defArgs (topS 13), defBody (topS 13), defScope (topS 13), [], []⟩
def d_are_numbers : He.DefD := ⟨("are_numbers", none), "are_numbers", "are_numbers", defArgs (topS 14), defBody (topS 14), defScope (topS 14), [], []⟩
def d_check_prime : He.DefD := ⟨("check_prime", none), "check_prime", "check_prime", defArgs (topS 15), defBody (topS 15), defScope (topS 15), [], []⟩
def d_check_number : He.DefD := ⟨("check_number", none), "check_number", "check_number", defArgs (topS 16), defBody (topS 16), defScope (topS 16), [], []⟩
def d_check_row : He.DefD := ⟨("check_row", none), "check_row", "check_row", defArgs (topS 17), defBody (topS 17), defScope (topS 17), [], []⟩
def d_taps_of_low : He.DefD := ⟨("taps_of_low", none), "taps_of_low", "taps_of_low", defArgs (topS 19), defBody (topS 19), defScope (topS 19), [], []⟩
def d_Growth_expected : He.DefD := ⟨("Growth", some "expected"), "expected", "Growth.expected", defArgs (inClass (topS 21) 1), defBody (inClass (topS 21) 1), defScope (inClass (topS 21) 1), [], []⟩
def d_Growth_may_jump : He.DefD := ⟨("Growth", some "may_jump"), "may_jump", "Growth.may_jump", defArgs (inClass (topS 21) 2), defBody (inClass (topS 21) 2), defScope (inClass (topS 21) 2), [], []⟩
def d_Growth_take : He.DefD := ⟨("Growth", some "take"), "take", "Growth.take", defArgs (inClass (topS 21) 3), defBody (inClass (topS 21) 3), defScope (inClass (topS 21) 3), [], []⟩
def d_Growth_taps : He.DefD := ⟨("Growth", some "taps"), "taps", "Growth.taps", defArgs (inClass (topS 21) 4), defBody (inClass (topS 21) 4), defScope (inClass (topS 21) 4), [], []⟩
def d_Growth__corrected : He.DefD := ⟨("Growth", some "_corrected"), "_corrected", "Growth._corrected", defArgs (inClass (topS 21) 5), defBody (inClass (topS 21) 5), defScope (inClass (topS 21) 5), [], []⟩
def d_grown : He.DefD := ⟨("grown", none), "grown", "grown", defArgs (topS 22), defBody (topS 22), defScope (topS 22), [], []⟩
def d_least_length : He.DefD := ⟨("least_length", none), "least_length", "least_length", defArgs (topS 24), defBody (topS 24), defScope (topS 24), [], []⟩
def d_shortest : He.DefD := ⟨("shortest", none), "shortest", "shortest", defArgs (topS 25), defBody (topS 25), defScope (topS 25), [], []⟩
def d_all_shortest : He.DefD := ⟨("all_shortest", none), "all_shortest", "all_shortest", defArgs (topS 26), defBody (topS 26), defScope (topS 26), [], []⟩
def d_lower_bound : He.DefD := ⟨("lower_bound", none), "lower_bound", "lower_bound", defArgs (topS 27), defBody (topS 27), defScope (topS 27), [], []⟩
def d__check : He.DefD := ⟨("_check", none), "_check", "_check", defArgs (topS 28), defBody (topS 28), defScope (topS 28), [], []⟩
def d__changed : He.DefD := ⟨("_changed", none), "_changed", "_changed", defArgs (topS 29), defBody (topS 29), defScope (topS 29), [], []⟩
def d__weights : He.DefD := ⟨("_weights", none), "_weights", "_weights", defArgs (topS 30), defBody (topS 30), defScope (topS 30), [], []⟩
def d_profile : He.DefD := ⟨("profile", none), "profile", "profile", defArgs (topS 32), defBody (topS 32), defScope (topS 32), [], []⟩
def d__law_taken : He.DefD := ⟨("_law_taken", none), "_law_taken", "_law_taken", defArgs (topS 34), defBody (topS 34), defScope (topS 34), [], []⟩
def d__law_pick : He.DefD := ⟨("_law_pick", none), "_law_pick", "_law_pick", defArgs (topS 35), defBody (topS 35), defScope (topS 35), [], []⟩
def d__law_prime : He.DefD := ⟨("_law_prime", none), "_law_prime", "_law_prime", defArgs (topS 36), defBody (topS 36), defScope (topS 36), [], []⟩
def d__law_alike : He.DefD := ⟨("_law_alike", none), "_law_alike", "_law_alike", defArgs (topS 37), defBody (topS 37), defScope (topS 37), [], []⟩
def d__law_are_numbers : He.DefD := ⟨("_law_are_numbers", none), "_law_are_numbers", "_law_are_numbers", defArgs (topS 38), defBody (topS 38), defScope (topS 38), [], []⟩
def d_law : He.DefD := ⟨("law", none), "law", "law", defArgs (topS 39), defBody (topS 39), defScope (topS 39), [], []⟩
def d_init : He.DefD := ⟨("Growth", some "__init__"), "__init__", "Growth.__init__", defArgs (inClass (topS 21) 0), defBody (inClass (topS 21) 0), defScope (inClass (topS 21) 0), [], []⟩
def fn : List He.DefD := [d_power_of, d_inverse, d_is_between, d_are_numbers, d_check_prime, d_check_number, d_check_row, d_taps_of_low, d_Growth_expected, d_Growth_may_jump, d_Growth_take, d_Growth_taps, d_Growth__corrected, d_grown, d_least_length, d_shortest, d_all_shortest, d_lower_bound, d__check, d__changed, d__weights, d_profile, d__law_taken, d__law_pick, d__law_prime, d__law_alike, d__law_are_numbers, d_law, d_init]
def fa : List He.Fa := [.free "all", .free "bool", .free "enumerate", .free "int", .free "isinstance", .free "len", .free "list", .free "max", .free "range", .free "reversed", .free "sorted", .free "str", .free "sum", .free "tuple", .free "zip", .int "MOST_FOUND" 2000, .int "MOST_NUMBERS" 400, .glo "PRIMES", .glo "Growth", .cls "Growth", .noat "Growth" "prime", .noat "Growth" "row", .noat "Growth" "length", .noat "Growth" "low", .noat "Growth" "older", .noat "Growth" "shift", .mkr "Growth", .meth "Growth" "expected", .meth "Growth" "may_jump", .meth "Growth" "take", .meth "Growth" "taps", .meth "Growth" "_corrected", .glo "power_of", .glo "inverse", .glo "is_between", .glo "are_numbers", .glo "check_prime", .glo "check_number", .glo "check_row", .glo "taps_of_low", .glo "grown", .glo "least_length", .glo "shortest", .glo "all_shortest", .glo "lower_bound", .glo "_check", .glo "_changed", .glo "_weights", .glo "profile", .glo "_law_taken", .glo "_law_pick", .glo "_law_prime", .glo "_law_alike", .glo "_law_are_numbers", .glo "law"]
def ex (K : PySem.W.Frag) : Bool := He.tupB K "PRIMES" [.int 2, .int 3, .int 5, .int 7] && (true)
abbrev R : PySem.W.OpenRow := PySem.W.OpenLaw.row PySem.Challenge.rw_taprows_k18_known_rows
abbrev hk : PySem.W.Hook := hookE 4 fa fn ex
def ob (s : PySem.W.SharedT) : He.AlD × Bool := obsE 4 fa fn ex (HandSHeadRun.getT s)
theorem ob_eq (s : PySem.W.SharedT) : ob s = hk.obs s.abs := obsE_eq (HandSHeadRun.getT_eq s)
def loose : List Str := (["RowsError", "BadPrime", "BadRow", "BadNumber", "TooMany", "Growth", "PRIMES", "MOST_NUMBERS", "MOST_FOUND", "power_of", "inverse", "is_between", "are_numbers", "check_prime", "check_number", "check_row", "taps_of_low", "grown", "least_length", "shortest"] : List Str) ++ (["all_shortest", "lower_bound", "_check", "_changed", "_weights", "profile", "_law_taken", "_law_pick", "_law_prime", "_law_alike", "_law_are_numbers"] : List Str)
theorem run_ok (w : World) : HandSHeadRun.RunEq R (PySem.W.view R.prog [39]) hk ob 6000 loose w := by
  intro os
  kernel_rfl
theorem tx {P : Program} {w : World} {K : PySem.W.Frag} {h : Heap} {mg : Str → Option Value} (X : K.In h) (G : h.Ns mainGlobals mg) (c : He.SaysD fa fn K) (ce : ex K = true) : ∃ fd, ∀ base, Tx P w base K mg fd := by
  obtain ⟨fd0, F0⟩ := c.def_ 0 (d := d_power_of) rfl
  obtain ⟨fd1, F1⟩ := c.def_ 1 (d := d_inverse) rfl
  obtain ⟨fd2, F2⟩ := c.def_ 2 (d := d_is_between) rfl
  obtain ⟨fd3, F3⟩ := c.def_ 3 (d := d_are_numbers) rfl
  obtain ⟨fd4, F4⟩ := c.def_ 4 (d := d_check_prime) rfl
  obtain ⟨fd5, F5⟩ := c.def_ 5 (d := d_check_number) rfl
  obtain ⟨fd6, F6⟩ := c.def_ 6 (d := d_check_row) rfl
  obtain ⟨fd7, F7⟩ := c.def_ 7 (d := d_taps_of_low) rfl
  obtain ⟨fd8, F8⟩ := c.def_ 8 (d := d_Growth_expected) rfl
  obtain ⟨fd9, F9⟩ := c.def_ 9 (d := d_Growth_may_jump) rfl
  obtain ⟨fd10, F10⟩ := c.def_ 10 (d := d_Growth_take) rfl
  obtain ⟨fd11, F11⟩ := c.def_ 11 (d := d_Growth_taps) rfl
  obtain ⟨fd12, F12⟩ := c.def_ 12 (d := d_Growth__corrected) rfl
  obtain ⟨fd13, F13⟩ := c.def_ 13 (d := d_grown) rfl
  obtain ⟨fd14, F14⟩ := c.def_ 14 (d := d_least_length) rfl
  obtain ⟨fd15, F15⟩ := c.def_ 15 (d := d_shortest) rfl
  obtain ⟨fd16, F16⟩ := c.def_ 16 (d := d_all_shortest) rfl
  obtain ⟨fd17, F17⟩ := c.def_ 17 (d := d_lower_bound) rfl
  obtain ⟨fd18, F18⟩ := c.def_ 18 (d := d__check) rfl
  obtain ⟨fd19, F19⟩ := c.def_ 19 (d := d__changed) rfl
  obtain ⟨fd20, F20⟩ := c.def_ 20 (d := d__weights) rfl
  obtain ⟨fd21, F21⟩ := c.def_ 21 (d := d_profile) rfl
  obtain ⟨fd22, F22⟩ := c.def_ 22 (d := d__law_taken) rfl
  obtain ⟨fd23, F23⟩ := c.def_ 23 (d := d__law_pick) rfl
  obtain ⟨fd24, F24⟩ := c.def_ 24 (d := d__law_prime) rfl
  obtain ⟨fd25, F25⟩ := c.def_ 25 (d := d__law_alike) rfl
  obtain ⟨fd26, F26⟩ := c.def_ 26 (d := d__law_are_numbers) rfl
  obtain ⟨fd27, F27⟩ := c.def_ 27 (d := d_law) rfl
  obtain ⟨fdi, Fi⟩ := c.def_ 28 (d := d_init) rfl
  let fd : Nat → FuncData := fun i => match i with
    | 0 => fd0
    | 1 => fd1
    | 2 => fd2
    | 3 => fd3
    | 4 => fd4
    | 5 => fd5
    | 6 => fd6
    | 7 => fd7
    | 8 => fd8
    | 9 => fd9
    | 10 => fd10
    | 11 => fd11
    | 12 => fd12
    | 13 => fd13
    | 14 => fd14
    | 15 => fd15
    | 16 => fd16
    | 17 => fd17
    | 18 => fd18
    | 19 => fd19
    | 20 => fd20
    | 21 => fd21
    | 22 => fd22
    | 23 => fd23
    | 24 => fd24
    | 25 => fd25
    | 26 => fd26
    | 27 => fd27
    | _ => fd0
  exact ⟨fd, fun base => {
    m_all := He.free_ok X G (c.fact 0 rfl)
    m_bool := He.free_ok X G (c.fact 1 rfl)
    m_enumerate := He.free_ok X G (c.fact 2 rfl)
    m_int := He.free_ok X G (c.fact 3 rfl)
    m_isinstance := He.free_ok X G (c.fact 4 rfl)
    m_len := He.free_ok X G (c.fact 5 rfl)
    m_list := He.free_ok X G (c.fact 6 rfl)
    m_max := He.free_ok X G (c.fact 7 rfl)
    m_range := He.free_ok X G (c.fact 8 rfl)
    m_reversed := He.free_ok X G (c.fact 9 rfl)
    m_sorted := He.free_ok X G (c.fact 10 rfl)
    m_str := He.free_ok X G (c.fact 11 rfl)
    m_sum := He.free_ok X G (c.fact 12 rfl)
    m_tuple := He.free_ok X G (c.fact 13 rfl)
    m_zip := He.free_ok X G (c.fact 14 rfl)
    c_MOST_FOUND := He.int_ok X G (c.fact 15 rfl)
    c_MOST_NUMBERS := He.int_ok X G (c.fact 16 rfl)
    g_PRIMES := He.glo_ok X G (c.fact 17 rfl)
    t_PRIMES := fun H => He.tupB_ok (vs := [.int 2, .int 3, .int 5, .int 7]) (He.ba ce).1 H
    g_Growth := He.glo_ok X G (c.fact 18 rfl)
    cls_ := He.cls_ok (c.fact 19 rfl)
    no_0 := He.noat_ok (c.fact 20 rfl)
    no_1 := He.noat_ok (c.fact 21 rfl)
    no_2 := He.noat_ok (c.fact 22 rfl)
    no_3 := He.noat_ok (c.fact 23 rfl)
    no_4 := He.noat_ok (c.fact 24 rfl)
    no_5 := He.noat_ok (c.fact 25 rfl)
    mkG := He.mkr_ok (c.fact 26 rfl)
    m_Growth_expected := He.meth_ok (c.fact 27 rfl)
    m_Growth_may_jump := He.meth_ok (c.fact 28 rfl)
    m_Growth_take := He.meth_ok (c.fact 29 rfl)
    m_Growth_taps := He.meth_ok (c.fact 30 rfl)
    m_Growth__corrected := He.meth_ok (c.fact 31 rfl)
    g_power_of := He.glo_ok X G (c.fact 32 rfl)
    g_inverse := He.glo_ok X G (c.fact 33 rfl)
    g_is_between := He.glo_ok X G (c.fact 34 rfl)
    g_are_numbers := He.glo_ok X G (c.fact 35 rfl)
    g_check_prime := He.glo_ok X G (c.fact 36 rfl)
    g_check_number := He.glo_ok X G (c.fact 37 rfl)
    g_check_row := He.glo_ok X G (c.fact 38 rfl)
    g_taps_of_low := He.glo_ok X G (c.fact 39 rfl)
    g_grown := He.glo_ok X G (c.fact 40 rfl)
    g_least_length := He.glo_ok X G (c.fact 41 rfl)
    g_shortest := He.glo_ok X G (c.fact 42 rfl)
    g_all_shortest := He.glo_ok X G (c.fact 43 rfl)
    g_lower_bound := He.glo_ok X G (c.fact 44 rfl)
    g__check := He.glo_ok X G (c.fact 45 rfl)
    g__changed := He.glo_ok X G (c.fact 46 rfl)
    g__weights := He.glo_ok X G (c.fact 47 rfl)
    g_profile := He.glo_ok X G (c.fact 48 rfl)
    g__law_taken := He.glo_ok X G (c.fact 49 rfl)
    g__law_pick := He.glo_ok X G (c.fact 50 rfl)
    g__law_prime := He.glo_ok X G (c.fact 51 rfl)
    g__law_alike := He.glo_ok X G (c.fact 52 rfl)
    g__law_are_numbers := He.glo_ok X G (c.fact 53 rfl)
    g_law := He.glo_ok X G (c.fact 54 rfl)
    i_init := ⟨fdi, ok_init (He.cls_ok (c.fact 19 rfl)) (fun k => match k with
      | 0 => He.noat_ok (c.fact 20 rfl)
      | 1 => He.noat_ok (c.fact 21 rfl)
      | 2 => He.noat_ok (c.fact 22 rfl)
      | 3 => He.noat_ok (c.fact 23 rfl)
      | 4 => He.noat_ok (c.fact 24 rfl)
      | _ + 5 => He.noat_ok (c.fact 25 rfl)) Fi, FunD.bindsN Fi fun _ _ _ _ _ _ us hl => match us, hl with | [_, _], _ => rfl⟩
    f_power_of := F0
    k_power_of := F0.kp
    b_power_of := FunD.bindsN F0 fun _ _ _ _ _ _ us hl => match us, hl with | [_, _], _ => rfl
    f_inverse := F1
    k_inverse := F1.kp
    b_inverse := FunD.bindsN F1 fun _ _ _ _ _ _ us hl => match us, hl with | [_, _], _ => rfl
    f_is_between := F2
    k_is_between := F2.kp
    b_is_between := FunD.bindsN F2 fun _ _ _ _ _ _ us hl => match us, hl with | [_, _, _], _ => rfl
    f_are_numbers := F3
    k_are_numbers := F3.kp
    b_are_numbers := FunD.bindsN F3 fun _ _ _ _ _ _ us hl => match us, hl with | [_, _, _], _ => rfl
    f_check_prime := F4
    k_check_prime := F4.kp
    b_check_prime := FunD.bindsN F4 fun _ _ _ _ _ _ us hl => match us, hl with | [_], _ => rfl
    f_check_number := F5
    k_check_number := F5.kp
    b_check_number := FunD.bindsN F5 fun _ _ _ _ _ _ us hl => match us, hl with | [_, _, _], _ => rfl
    f_check_row := F6
    k_check_row := F6.kp
    b_check_row := FunD.bindsN F6 fun _ _ _ _ _ _ us hl => match us, hl with | [_, _], _ => rfl
    f_taps_of_low := F7
    k_taps_of_low := F7.kp
    b_taps_of_low := FunD.bindsN F7 fun _ _ _ _ _ _ us hl => match us, hl with | [_, _], _ => rfl
    f_Growth_expected := F8
    k_Growth_expected := F8.kp
    b_Growth_expected := FunD.bindsN F8 fun _ _ _ _ _ _ us hl => match us, hl with | [_], _ => rfl
    f_Growth_may_jump := F9
    k_Growth_may_jump := F9.kp
    b_Growth_may_jump := FunD.bindsN F9 fun _ _ _ _ _ _ us hl => match us, hl with | [_], _ => rfl
    f_Growth_take := F10
    k_Growth_take := F10.kp
    b_Growth_take := FunD.bindsN F10 fun _ _ _ _ _ _ us hl => match us, hl with | [_, _], _ => rfl
    f_Growth_taps := F11
    k_Growth_taps := F11.kp
    b_Growth_taps := FunD.bindsN F11 fun _ _ _ _ _ _ us hl => match us, hl with | [_], _ => rfl
    f_Growth__corrected := F12
    k_Growth__corrected := F12.kp
    b_Growth__corrected := FunD.bindsN F12 fun _ _ _ _ _ _ us hl => match us, hl with | [_, _], _ => rfl
    f_grown := F13
    k_grown := F13.kp
    b_grown := FunD.bindsN F13 fun _ _ _ _ _ _ us hl => match us, hl with | [_, _], _ => rfl
    f_least_length := F14
    k_least_length := F14.kp
    b_least_length := FunD.bindsN F14 fun _ _ _ _ _ _ us hl => match us, hl with | [_, _], _ => rfl
    f_shortest := F15
    k_shortest := F15.kp
    b_shortest := FunD.bindsN F15 fun _ _ _ _ _ _ us hl => match us, hl with | [_, _], _ => rfl
    f_all_shortest := F16
    k_all_shortest := F16.kp
    b_all_shortest := FunD.bindsN F16 fun _ _ _ _ _ _ us hl => match us, hl with | [_, _], _ => rfl
    f_lower_bound := F17
    k_lower_bound := F17.kp
    b_lower_bound := FunD.bindsN F17 fun _ _ _ _ _ _ us hl => match us, hl with | [_, _, _], _ => rfl
    f__check := F18
    k__check := F18.kp
    b__check := FunD.bindsN F18 fun _ _ _ _ _ _ us hl => match us, hl with | [_, _], _ => rfl
    f__changed := F19
    k__changed := F19.kp
    b__changed := FunD.bindsN F19 fun _ _ _ _ _ _ us hl => match us, hl with | [_, _, _, _], _ => rfl
    f__weights := F20
    k__weights := F20.kp
    b__weights := FunD.bindsN F20 fun _ _ _ _ _ _ us hl => match us, hl with | [_, _, _], _ => rfl
    f_profile := F21
    k_profile := F21.kp
    b_profile := FunD.bindsN F21 fun _ _ _ _ _ _ us hl => match us, hl with | [_, _], _ => rfl
    f__law_taken := F22
    k__law_taken := F22.kp
    b__law_taken := FunD.bindsN F22 fun _ _ _ _ _ _ us hl => match us, hl with | [_, _], _ => rfl
    f__law_pick := F23
    k__law_pick := F23.kp
    b__law_pick := FunD.bindsN F23 fun _ _ _ _ _ _ us hl => match us, hl with | [_, _], _ => rfl
    f__law_prime := F24
    k__law_prime := F24.kp
    b__law_prime := FunD.bindsN F24 fun _ _ _ _ _ _ us hl => match us, hl with | [_], _ => rfl
    f__law_alike := F25
    k__law_alike := F25.kp
    b__law_alike := FunD.bindsN F25 fun _ _ _ _ _ _ us hl => match us, hl with | [_, _], _ => rfl
    f__law_are_numbers := F26
    k__law_are_numbers := F26.kp
    b__law_are_numbers := FunD.bindsN F26 fun _ _ _ _ _ _ us hl => match us, hl with | [_, _, _], _ => rfl
    f_law := F27
    k_law := F27.kp
    b_law := FunD.bindsN F27 fun _ _ _ _ _ _ us hl => match us, hl with | [_], _ => rfl }⟩
end IPL
open PySem PySem.W PySem.Calls PyProof.Rows
theorem IPL.fin_law (law_true : ∀ ns : List Int, ns.length ≤ 63 → IPL.run 30 "law" none [IP.scr ns] = some (.dat (.bool true), none)) : PySem.Challenge.rw_taprows_k18_known_rows.Holds := by
  w_on; o_law
  refine HandSHeadRun.head_any (r := OpenLaw.row PySem.Challenge.rw_taprows_k18_known_rows) (q := view (OpenLaw.row PySem.Challenge.rw_taprows_k18_known_rows).prog [39]) (H := IPL.hk) (ob := IPL.ob) (M := 6000) (loose := IPL.loose) (d := HandSHeadRun.topDef (OpenLaw.row PySem.Challenge.rw_taprows_k18_known_rows).prog 39) (kwd := []) IPL.ob_eq
    (by kernel_rfl) (fun s => by kernel_rfl) IPL.run_ok (by kernel_rfl) (by kernel_rfl) (by kernel_rfl) (by rfl) (by first | assumption | decide +kernel) (by decide +kernel) ⟨rfl, rfl, rfl, rfl, rfl, by decide +kernel⟩ ?hw ?hc
  case hw => w_witness2
  case hc =>
    refine L2.walk_ofE (l := PySem.Challenge.rw_taprows_k18_known_rows) (n := 63) (k := 30) (x := "script") (CX := L2.CX0) rfl (by decide) (by kernel_rfl) ⟨rfl, by decide, by decide⟩ ?F (fun _ _ _ _ z => z)
    intro w mg fa h Y G hmg0
    obtain ⟨K, KX, c, ce⟩ := Y
    have hmg : mg ("law" : PySem.Str) = some (.ref fa) := by
      have e : (HandSHeadRun.topDef (OpenLaw.row PySem.Challenge.rw_taprows_k18_known_rows).prog 39).name = ("law" : PySem.Str) := by kernel_rfl
      rw [← e]
      exact hmg0
    obtain ⟨fd, T⟩ := IPL.tx KX G c ce (P := (PySem.Challenge.rw_taprows_k18_known_rows).prog) (w := w)
    have e := hmg.symm.trans (T h).g_law
    cases e
    refine ⟨K, fd 27, IP.spI K (IPL.run 30 "law"), KX, fun s v => L2.FunD.bindsA (T h).f_law (ps := ["script"]) (fun _ _ _ _ _ _ us hl => match us, hl with | [_], _ => rfl) s [v] rfl, fun H a ns hl _ hS => ?_, fun base _ _ => (IPL.ih_all (P := (PySem.Challenge.rw_taprows_k18_known_rows).prog) (w := w) (base := base) (T base) 30).i_law⟩
    exact IP.law_end hS (law_true ns hl)
end
section
set_option linter.all false
set_option maxRecDepth 8000
/-! Com0: what laws share, apart from any table of functions. -/
namespace IPL
open IP
open PySem (PyData)
/-- all within 0 .. p - 1, at most so many -/
def numsB (p : Int) (most : Int) (xs : List Int) : Bool := if most < (xs.length : Int) then false else xs.all fun x => decide (0 ≤ x ∧ x ≤ p - 1)
def isPrime (p : Int) : Prop := p = 2 ∨ p = 3 ∨ p = 5 ∨ p = 7
def nums (p : Int) (xs : List Int) : Prop := ∀ x ∈ xs, 0 ≤ x ∧ x < p
theorem numsB_of {p most : Int} {xs : List Int} (h : nums p xs) (hl : (xs.length : Int) ≤ most) : numsB p most xs = true := by
  unfold numsB
  rw [if_neg (by omega), List.all_eq_true]
  intro x hx
  have := h x hx
  exact decide_eq_true (by omega)
theorem prime_pos {p : Int} (h : isPrime p) : 2 ≤ p ∧ p ≤ 7 := by
  rcases h with rfl | rfl | rfl | rfl <;> decide
/-- what a law draws from: the script, how far it is read, what is kept -/
def RowOk (ns : List Int) (xs : List D) : Prop := ∃ a b c : Int, xs = [scr ns, .int a, .int b, .int c] ∧ 0 ≤ a
theorem atD4_0 (a b c d : D) : atD [a, b, c, d] 0 = some a := rfl
theorem atD4_1 (a b c d : D) : atD [a, b, c, d] 1 = some b := rfl
theorem atD4_2 (a b c d : D) : atD [a, b, c, d] 2 = some c := rfl
theorem atD4_3 (a b c d : D) : atD [a, b, c, d] 3 = some d := rfl
theorem ixN4_1 : IP.ixN 4 1 = some 1 := rfl
theorem ixN4_2 : IP.ixN 4 2 = some 2 := rfl
theorem ixN4_3 : IP.ixN 4 3 = some 3 := rfl
@[simp] theorem shaped_int (v : Int) : PySem.SeqAt.shaped (.int v) = true := EV.shI v
@[simp] theorem shaped_none : PySem.SeqAt.shaped .none = true := EV.shN
@[simp] theorem shaped_bool (v : Bool) : PySem.SeqAt.shaped (.bool v) = true := EV.shB v
@[simp] theorem shaped_nil : PySem.SeqAt.shaped (.list []) = true := by decide
@[simp] theorem eqv_int (a b : Int) : PyData.eqv (.int a) (.int b) = (a == b) := by rw [PyData.eqv]
@[simp] theorem eqv_none : PyData.eqv .none .none = true := by rw [PyData.eqv]
@[simp] theorem eqv_bool (a b : Bool) : PyData.eqv (.bool a) (.bool b) = (a == b) := by rw [PyData.eqv]
@[simp] theorem eqv_int_none (a : Int) : PyData.eqv (.int a) .none = false := by rw [PyData.eqv] <;> simp
@[simp] theorem eqv_nil : PyData.eqv (.list []) (.list []) = true := by rw [PyData.eqv, PyData.eqvAll]
theorem depthAll_ints : ∀ xs : List Int, PyData.depthAll (xs.map .int) ≤ 1
  | [] => by simp [PyData.depthAll]
  | x :: xs => by
    have := depthAll_ints xs
    simp [PyData.depthAll, PyData.depth] at *
    omega
theorem canLay_ints : ∀ xs : List Int, PyData.canLayAll0 (xs.map .int) = true
  | [] => by simp [PyData.canLayAll0]
  | x :: xs => by simp [PyData.canLayAll0, PyData.canLay0, canLay_ints xs]
@[simp] theorem shaped_row (xs : List Int) : PySem.SeqAt.shaped (.tuple (xs.map .int)) = true := by
  have := depthAll_ints xs
  simp [PySem.SeqAt.shaped, PyData.canLay0, PyData.depth, canLay_ints]
  omega
@[simp] theorem shaped_lst (xs : List Int) : PySem.SeqAt.shaped (.list (xs.map .int)) = true := by
  have := depthAll_ints xs
  simp [PySem.SeqAt.shaped, PyData.canLay0, PyData.depth, canLay_ints]
  omega
theorem eqvAll_ints : ∀ xs ys : List Int, PyData.eqvAll (xs.map .int) (ys.map .int) = decide (xs = ys)
  | [], [] => by simp [PyData.eqvAll]
  | [], y :: ys => by simp [PyData.eqvAll]
  | x :: xs, [] => by simp [PyData.eqvAll]
  | x :: xs, y :: ys => by
    simp [PyData.eqvAll, eqvAll_ints xs ys]
    by_cases h1 : x = y <;> by_cases h2 : xs = ys <;> simp [h1, h2]
@[simp] theorem eqv_row (xs ys : List Int) : PyData.eqv (.tuple (xs.map .int)) (.tuple (ys.map .int)) = decide (xs = ys) := by
  rw [PyData.eqv, eqvAll_ints]
@[simp] theorem eqv_lst (xs ys : List Int) : PyData.eqv (.list (xs.map .int)) (.list (ys.map .int)) = decide (xs = ys) := by
  rw [PyData.eqv, eqvAll_ints]
theorem p_eqT {us vs : List Int} : bEq (iT us) (iT vs) = some (.dat (.bool (decide (us = vs)))) := by rw [bEq, if_pos ⟨shaped_row us, shaped_row vs⟩, eqv_row]
theorem p_neT {us vs : List Int} : bNe (iT us) (iT vs) = some (.dat (.bool (!decide (us = vs)))) := by rw [bNe, if_pos ⟨shaped_row us, shaped_row vs⟩, eqv_row]
theorem p_eqT1 {us : List Int} {v : Int} : bEq (iT us) (.tuple [.int v]) = some (.dat (.bool (decide (us = [v])))) := p_eqT (vs := [v])
theorem p_neT1 {us : List Int} {v : Int} : bNe (iT us) (.tuple [.int v]) = some (.dat (.bool (!decide (us = [v])))) := p_neT (vs := [v])
theorem p_eqL {us vs : List Int} : bEq (iL us) (iL vs) = some (.dat (.bool (decide (us = vs)))) := by rw [bEq, if_pos ⟨shaped_lst us, shaped_lst vs⟩, eqv_lst]
theorem p_neL {us vs : List Int} : bNe (iL us) (iL vs) = some (.dat (.bool (!decide (us = vs)))) := by rw [bNe, if_pos ⟨shaped_lst us, shaped_lst vs⟩, eqv_lst]
theorem p_eqT0 {us : List Int} : bEq (iT us) (.tuple []) = some (.dat (.bool (decide (us = [])))) := p_eqT (vs := [])
theorem p_neT0 {us : List Int} : bNe (iT us) (.tuple []) = some (.dat (.bool (!decide (us = [])))) := p_neT (vs := [])
theorem p_eqL1 {us : List Int} {v : Int} : bEq (iL us) (.list [.int v]) = some (.dat (.bool (decide (us = [v])))) := p_eqL (vs := [v])
theorem p_neL1 {us : List Int} {v : Int} : bNe (iL us) (.list [.int v]) = some (.dat (.bool (!decide (us = [v])))) := p_neL (vs := [v])
theorem p_eqL0 : bEq (.list []) (.list []) = some (.dat (.bool true)) := by
  have := p_eqL (us := []) (vs := [])
  simpa using this
/-! draws in a comprehension -/
/-- a function that draws a number below m from a row -/
def Draws (c : Fnc) (ns : List Int) (m : Int) : Prop := ∀ xs, RowOk ns xs → ∃ k xs', c (some xs) [.int m] = some (.dat (.int k), some xs') ∧ (0 ≤ k ∧ k < m) ∧ RowOk ns xs'
theorem lc_draws {c : Fnc} {ns : List Int} {m : Int} (hd : Draws c ns m) {v : Nat} {e : Ev} (E : List D → Env) (EP : List D → D → Env)
    (h1 : ∀ xs d, (Tg.nm v).put d (E xs) = some (EP xs d)) (h2 : ∀ xs d k xs', c (some xs) [.int m] = some (.dat (.int k), some xs') → e (EP xs d) = some (.dat (.int k), EP xs' d)) (h3 : ∀ xs d, unAll [v] (EP xs d) = some (E xs)) (src : List D) : ∀ (ds : List D) (xs : List D), RowOk ns xs →
    ∃ is xs', lcGo [v] (.nm v) tYes e src none ds (E xs) = some (is.map .int, E xs') ∧ is.length = ds.length ∧ nums m is ∧ RowOk ns xs'
  | [], xs, hx => ⟨[], xs, by simp [lcGo], rfl, fun x h => by simp at h, hx⟩
  | d :: ds, xs, hx => by
    obtain ⟨k, xs1, e1, hk, hx1⟩ := hd xs hx
    obtain ⟨is, xs2, e2, hl, hn, hx2⟩ := lc_draws hd E EP h1 h2 h3 src ds xs1 hx1
    refine ⟨k :: is, xs2, ?_, by simp [hl], ?_, hx2⟩
    · have et : lcTurn [v] (.nm v) tYes e d (E xs) = some (some (.int k), E xs1) := by
        unfold lcTurn
        rw [h1]
        simp only [Option.bind_some, tYes, if_true, h2 _ _ _ _ e1, h3, Option.map_some, Res.toD]
      rw [lcGo_cons rfl, et]
      simp only [Option.bind_some, e2, Option.map_some]
      rfl
    · intro x hx
      rcases List.mem_cons.mp hx with rfl | hx
      · exact hk
      · exact hn x hx
/-- a draw's bound -/
def okM (m : Int) : Prop := 0 < m ∧ (m < 1073741824 ∨ m.natAbs.log2 < 9000)
theorem okM_s {m : Int} (h : 0 < m) (h2 : m < 1073741824) : okM m := ⟨h, .inl h2⟩
end IPL
end
section
set_option linter.all false
set_option maxRecDepth 8000
/-! Com1: tuples and lists of rows. -/
namespace IPL
open IP
open PySem (PyData)
abbrev iTT (xs : List (List Int)) : D := .tuple (xs.map iT)
abbrev iLT (xs : List (List Int)) : D := .list (xs.map iT)
theorem depthAll_rows : ∀ xs : List (List Int), PyData.depthAll (xs.map iT) ≤ 3
  | [] => by simp [PyData.depthAll]
  | x :: xs => by
    have h1 := depthAll_rows xs
    have h2 := depthAll_ints x
    simp only [List.map_cons, PyData.depthAll, PyData.depth] at *
    omega
theorem canLay_rows : ∀ xs : List (List Int), PyData.canLayAll0 (xs.map iT) = true
  | [] => by simp [PyData.canLayAll0]
  | x :: xs => by simp [PyData.canLayAll0, PyData.canLay0, canLay_ints, canLay_rows xs]
theorem shaped_rows (xs : List (List Int)) : PySem.SeqAt.shaped (iTT xs) = true := by
  have := depthAll_rows xs
  simp [PySem.SeqAt.shaped, PyData.canLay0, PyData.depth, canLay_rows]
  omega
theorem shaped_rowsL (xs : List (List Int)) : PySem.SeqAt.shaped (iLT xs) = true := by
  have := depthAll_rows xs
  simp [PySem.SeqAt.shaped, PyData.canLay0, PyData.depth, canLay_rows]
  omega
theorem eqvAll_rows : ∀ xs ys : List (List Int), PyData.eqvAll (xs.map iT) (ys.map iT) = decide (xs = ys)
  | [], [] => by simp [PyData.eqvAll]
  | [], y :: ys => by simp [PyData.eqvAll]
  | x :: xs, [] => by simp [PyData.eqvAll]
  | x :: xs, y :: ys => by
    have h : PyData.eqv (iT x) (iT y) = decide (x = y) := eqv_row x y
    rw [List.map_cons, List.map_cons, PyData.eqvAll, h, eqvAll_rows xs ys]
    by_cases h1 : x = y <;> by_cases h2 : xs = ys <;> simp [h1, h2]
theorem p_eqTT {us vs : List (List Int)} : bEq (iTT us) (iTT vs) = some (.dat (.bool (decide (us = vs)))) := by rw [bEq, if_pos ⟨shaped_rows us, shaped_rows vs⟩, PyData.eqv, eqvAll_rows]
theorem p_neTT {us vs : List (List Int)} : bNe (iTT us) (iTT vs) = some (.dat (.bool (!decide (us = vs)))) := by rw [bNe, if_pos ⟨shaped_rows us, shaped_rows vs⟩, PyData.eqv, eqvAll_rows]
theorem p_eqLT {us vs : List (List Int)} : bEq (iLT us) (iLT vs) = some (.dat (.bool (decide (us = vs)))) := by rw [bEq, if_pos ⟨shaped_rowsL us, shaped_rowsL vs⟩, PyData.eqv, eqvAll_rows]
theorem p_neLT {us vs : List (List Int)} : bNe (iLT us) (iLT vs) = some (.dat (.bool (!decide (us = vs)))) := by rw [bNe, if_pos ⟨shaped_rowsL us, shaped_rowsL vs⟩, PyData.eqv, eqvAll_rows]
theorem p_ixTT {us : List (List Int)} {k : Nat} (h : k < us.length) : bIx (iTT us) (.int (k : Int)) = some (.dat (iT (us.getD k []))) := by
  rw [EV.p_ixDT (by simpa using h)]
  simp [List.getD, h]
theorem p_ixLT {us : List (List Int)} {k : Nat} (h : k < us.length) : bIx (iLT us) (.int (k : Int)) = some (.dat (iT (us.getD k []))) := by
  rw [EV.p_ixDL (by simpa using h)]
  simp [List.getD, h]
theorem p_neL0 : bNe (.list []) (.list []) = some (.dat (.bool false)) := by
  have := p_neL (us := []) (vs := [])
  simpa using this
theorem map_map_iT {α : Type} (f : α → List Int) (l : List α) : l.map (fun x => iT (f x)) = (l.map f).map iT := by rw [List.map_map]; rfl
end IPL
end
section
set_option linter.all false
set_option maxRecDepth 8000
/-! Pol: polynomials as lists of numbers. -/
namespace IPL
open IP
open PySem (PyData)
def sg (f : Nat → Int) : Nat → Int
  | 0 => 0
  | n + 1 => sg f n + f n
theorem sg_congr {f g : Nat → Int} : ∀ {n : Nat}, (∀ j, j < n → f j = g j) → sg f n = sg g n
  | 0, _ => rfl
  | n + 1, h => by rw [sg, sg, sg_congr fun j hj => h j (by omega), h n (by omega)]
theorem sg_zero {f : Nat → Int} : ∀ {n : Nat}, (∀ j, j < n → f j = 0) → sg f n = 0
  | 0, _ => rfl
  | n + 1, h => by rw [sg, sg_zero fun j hj => h j (by omega), h n (by omega)]; rfl
theorem sg_more {f : Nat → Int} {n : Nat} : ∀ (m : Nat), (∀ j, n ≤ j → f j = 0) → sg f (n + m) = sg f n
  | 0, _ => rfl
  | m + 1, h => by
    rw [← Nat.add_assoc, sg, sg_more m h, h (n + m) (by omega)]
    omega
theorem sg_front (f : Nat → Int) : ∀ n : Nat, sg f (n + 1) = f 0 + sg (fun j => f (j + 1)) n
  | 0 => by simp [sg]
  | n + 1 => by
    rw [sg, sg_front f n, sg]
    omega
theorem sg_flip (f : Nat → Int) : ∀ n : Nat, sg (fun j => f (n - 1 - j)) n = sg f n
  | 0 => rfl
  | n + 1 => by
    rw [sg_front, sg, ← sg_flip f n]
    have : sg (fun j => f (n + 1 - 1 - (j + 1))) n = sg (fun j => f (n - 1 - j)) n := sg_congr fun j hj => by
      congr 1
      omega
    rw [this]
    simp only [Nat.add_sub_cancel, Nat.sub_zero]
    omega
theorem sum_sg (f : Nat → Int) : ∀ n : Nat, ((List.range n).map f).sum = sg f n
  | 0 => rfl
  | n + 1 => by
    rw [List.range_succ, List.map_append, List.sum_append, sum_sg f n, sg]
    simp
theorem sg_dvd {p : Int} {f g : Nat → Int} : ∀ {n : Nat}, (∀ j, j < n → p ∣ f j - g j) → p ∣ sg f n - sg g n
  | 0, _ => by simp [sg]
  | n + 1, h => by
    have h1 := sg_dvd (n := n) fun j hj => h j (by omega)
    have h2 := h n (by omega)
    rw [sg, sg, show sg f n + f n - (sg g n + g n) = (sg f n - sg g n) + (f n - g n) by omega]
    exact Int.dvd_add h1 h2
def tl (xs : List Int) : Nat → Nat
  | 0 => 0
  | n + 1 => if xs.getD n 0 = 0 then tl xs n else n + 1
theorem tl_le (xs : List Int) : ∀ n, tl xs n ≤ n
  | 0 => Nat.le_refl 0
  | n + 1 => by
    have := tl_le xs n
    rw [tl]
    split <;> omega
theorem tl_zero (xs : List Int) : ∀ n i, tl xs n ≤ i → i < n → xs.getD i 0 = 0
  | 0, i, _, h => by omega
  | n + 1, i, h1, h2 => by
    rw [tl] at h1
    split at h1
    · rename_i h
      by_cases e : i = n
      · rw [e]; exact h
      · exact tl_zero xs n i h1 (by omega)
    · omega
theorem tl_last (xs : List Int) : ∀ n, tl xs n = 0 ∨ xs.getD (tl xs n - 1) 0 ≠ 0
  | 0 => .inl rfl
  | n + 1 => by
    rw [tl]
    split
    · exact tl_last xs n
    · rename_i h
      exact .inr h
def trim (xs : List Int) : List Int := xs.take (tl xs xs.length)
theorem getD_big (xs : List Int) (i : Nat) (h : xs.length ≤ i) : xs.getD i 0 = 0 := by
  rw [List.getD_eq_getElem?_getD, List.getElem?_eq_none h]
  rfl
theorem tl_all (xs : List Int) (i : Nat) (h : tl xs xs.length ≤ i) : xs.getD i 0 = 0 := by
  by_cases h2 : i < xs.length
  · exact tl_zero xs _ i h h2
  · exact getD_big xs i (by omega)
theorem trim_length (xs : List Int) : (trim xs).length = tl xs xs.length := by
  have := tl_le xs xs.length
  rw [trim, List.length_take]
  omega
theorem trim_le (xs : List Int) : (trim xs).length ≤ xs.length := by
  rw [trim_length]
  exact tl_le ..
theorem getD_take (xs : List Int) (n i : Nat) : (xs.take n).getD i 0 = if i < n then xs.getD i 0 else 0 := by
  split
  · rename_i h
    rw [List.getD_eq_getElem?_getD, List.getD_eq_getElem?_getD, List.getElem?_take_of_lt h]
  · rename_i h
    exact getD_big _ _ (by rw [List.length_take]; omega)
theorem trim_getD (xs : List Int) (i : Nat) : (trim xs).getD i 0 = xs.getD i 0 := by
  rw [trim, getD_take]
  split
  · rfl
  · rename_i h
    exact (tl_all xs i (by omega)).symm
theorem list_ext {xs ys : List Int} (hl : xs.length = ys.length) (h : ∀ i, i < xs.length → xs.getD i 0 = ys.getD i 0) : xs = ys := by
  apply List.ext_getElem hl
  intro i h1 h2
  have := h i h1
  simpa [h1, h2] using this
theorem trim_ext {xs ys : List Int} (h : ∀ i, xs.getD i 0 = ys.getD i 0) : trim xs = trim ys := by
  have key : ∀ {xs ys : List Int}, (∀ i, xs.getD i 0 = ys.getD i 0) → tl ys ys.length ≤ tl xs xs.length := by
    intro xs ys h
    rcases tl_last ys ys.length with h1 | h1
    · omega
    · apply Nat.le_of_not_lt
      intro h2
      exact h1 (by rw [← h]; exact tl_all xs _ (by omega))
  apply list_ext
  · rw [trim_length, trim_length]
    exact Nat.le_antisymm (key fun i => (h i).symm) (key h)
  · intro i _
    rw [trim_getD, trim_getD, h]
theorem trim_trim (xs : List Int) : trim (trim xs) = trim xs := trim_ext fun i => trim_getD xs i
theorem trim_nums {p : Int} {xs : List Int} (h : nums p xs) : nums p (trim xs) := fun x hx => h x (List.mem_of_mem_take hx)
def polyL (xs : List Int) : Prop := xs = [] ∨ xs.getD (xs.length - 1) 0 ≠ 0
theorem trim_poly (xs : List Int) : polyL (trim xs) := by
  rcases tl_last xs xs.length with h | h
  · left
    exact List.length_eq_zero_iff.mp (by rw [trim_length, h])
  · right
    rw [trim_length, trim_getD]
    exact h
theorem trim_of_poly {xs : List Int} (h : polyL xs) : trim xs = xs := by
  rcases h with rfl | h
  · rfl
  · cases e : xs.length with
    | zero => rw [List.length_eq_zero_iff.mp e]; rfl
    | succ n =>
      rw [trim, e, tl, if_neg (by rw [e] at h; exact h), ← e, List.take_length]
def ab (a b : List Int) (k i : Nat) : Int := sg (fun j => if j ≤ i then a.getD j 0 * b.getD (i - j) 0 else 0) k
def abIn (a b : List Int) (k t i : Nat) : Int := ab a b k i + (if k ≤ i ∧ i < k + t then a.getD k 0 * b.getD (i - k) 0 else 0)
theorem ab_succ (a b : List Int) (k i : Nat) : ab a b (k + 1) i = ab a b k i + (if k ≤ i then a.getD k 0 * b.getD (i - k) 0 else 0) := rfl
theorem abIn_zero (a b : List Int) (k i : Nat) : abIn a b k 0 i = ab a b k i := by
  unfold abIn
  rw [if_neg (by omega)]
  omega
theorem abIn_all (a b : List Int) (k i : Nat) : abIn a b k b.length i = ab a b (k + 1) i := by
  unfold abIn
  rw [ab_succ]
  by_cases h : k ≤ i
  · by_cases h2 : i < k + b.length
    · rw [if_pos ⟨h, h2⟩, if_pos h]
    · rw [if_neg (by omega), if_pos h, getD_big b _ (by omega), Int.mul_zero]
  · rw [if_neg (by omega), if_neg h]
theorem abIn_here (a b : List Int) (k t : Nat) : abIn a b k t (k + t) = ab a b k (k + t) := by
  unfold abIn
  rw [if_neg (by omega)]
  omega
theorem abIn_next (a b : List Int) (k t : Nat) : abIn a b k (t + 1) (k + t) = ab a b k (k + t) + a.getD k 0 * b.getD t 0 := by
  unfold abIn
  rw [if_pos ⟨by omega, by omega⟩, show k + t - k = t by omega]
theorem abIn_other (a b : List Int) (k t i : Nat) (h : i ≠ k + t) : abIn a b k (t + 1) i = abIn a b k t i := by
  unfold abIn
  by_cases h2 : k ≤ i ∧ i < k + t
  · rw [if_pos h2, if_pos ⟨h2.1, by omega⟩]
  · rw [if_neg h2, if_neg (by omega)]
theorem getD_set (r : List Int) (j i : Nat) (v : Int) (hj : j < r.length) : (r.set j v).getD i 0 = if i = j then v else r.getD i 0 := by
  by_cases h : i = j
  · subst h
    rw [if_pos rfl]
    simp [hj]
  · rw [if_neg h, List.getD_eq_getElem?_getD, List.getD_eq_getElem?_getD, List.getElem?_set_ne (fun e => h e.symm)]
def mul (p : Int) (a b : List Int) : List Int := trim ((List.range (a.length + b.length)).map fun i => ab a b a.length i % p)
theorem mul_of {p : Int} {a b r : List Int} (h : ∀ i, r.getD i 0 = ab a b a.length i % p) : trim r = mul p a b := by
  apply trim_ext
  intro i
  rw [h]
  by_cases hi : i < a.length + b.length
  · simp [hi]
  · rw [getD_big _ i (by simp; omega)]
    unfold ab
    rw [sg_zero]
    · rfl
    · intro j hj
      by_cases hji : j ≤ i
      · rw [if_pos hji, getD_big b _ (by omega), Int.mul_zero]
      · rw [if_neg hji]
theorem getD_zeros (m i : Nat) : (List.replicate m (0 : Int)).getD i 0 = 0 := by
  by_cases h : i < m
  · simp [h]
  · exact getD_big _ _ (by simp; omega)
def cv (a b : List Int) (i : Nat) : Int := sg (fun j => a.getD j 0 * b.getD (i - j) 0) (i + 1)
theorem ab_cv (a b : List Int) (i : Nat) : ab a b a.length i = cv a b i := by
  unfold ab cv
  have h1 := sg_more (f := fun j => if j ≤ i then a.getD j 0 * b.getD (i - j) 0 else 0) (n := a.length) (i + 1) (fun j hj => by
    show (if j ≤ i then a.getD j 0 * b.getD (i - j) 0 else 0) = 0
    rw [getD_big a _ hj, Int.zero_mul]
    split <;> rfl)
  have h2 := sg_more (f := fun j => if j ≤ i then a.getD j 0 * b.getD (i - j) 0 else 0) (n := i + 1) a.length (fun j hj => by
    show (if j ≤ i then a.getD j 0 * b.getD (i - j) 0 else 0) = 0
    rw [if_neg (by omega)])
  rw [← h1, show a.length + (i + 1) = i + 1 + a.length by omega, h2]
  exact sg_congr fun j hj => by rw [if_pos (by omega)]
theorem cv_comm (a b : List Int) (i : Nat) : cv a b i = cv b a i := by
  unfold cv
  rw [← sg_flip]
  exact sg_congr fun j hj => by
    rw [Int.mul_comm, show i + 1 - 1 - j = i - j by omega, show i - (i - j) = j by omega]
theorem cv_ext {a b a' b' : List Int} (ha : ∀ i, a.getD i 0 = a'.getD i 0) (hb : ∀ i, b.getD i 0 = b'.getD i 0) (i : Nat) : cv a b i = cv a' b' i := sg_congr fun j _ => by rw [ha, hb]
theorem mul_getD (p : Int) (a b : List Int) (i : Nat) : (mul p a b).getD i 0 = cv a b i % p := by
  rw [← ab_cv]
  by_cases hi : i < a.length + b.length
  · rw [mul, trim_getD]
    simp [hi]
  · rw [getD_big _ i (by
      have := trim_le ((List.range (a.length + b.length)).map fun i => ab a b a.length i % p)
      rw [mul]
      simp at this
      omega)]
    unfold ab
    rw [sg_zero]
    · rfl
    · intro j hj
      by_cases hji : j ≤ i
      · rw [if_pos hji, getD_big b _ (by omega), Int.mul_zero]
      · rw [if_neg hji]
theorem cv_front (a b : List Int) (i : Nat) : cv a b i = a.getD 0 0 * b.getD i 0 + sg (fun k => a.getD (k + 1) 0 * b.getD (i - (k + 1)) 0) i := by
  unfold cv
  rw [sg_front]
  rfl
theorem emod_of {p x y : Int} (h : p ∣ x - y) : x % p = y % p := Int.emod_eq_emod_iff_emod_sub_eq_zero.mpr (Int.emod_eq_zero_of_dvd h)
theorem emod_small {p x : Int} (h : 0 ≤ x ∧ x < p) : x % p = x := Int.emod_eq_of_lt h.1 h.2
theorem nums_getD {p : Int} {xs : List Int} (hp : 0 < p) (h : nums p xs) (i : Nat) : 0 ≤ xs.getD i 0 ∧ xs.getD i 0 < p := by
  by_cases hi : i < xs.length
  · have f2 : xs[i]? = some xs[i] := List.getElem?_eq_getElem hi
    have f3 : xs.getD i 0 = xs[i] := by simp [f2]
    rw [f3]
    exact h _ (List.getElem_mem hi)
  · rw [getD_big _ _ (by omega)]
    omega
end IPL
end
section
set_option linter.all false
set_option maxRecDepth 8000
/-! Fig: figures of numbers to the base of a prime; inverses. -/
namespace IPL
open IP
open PySem (PyData)
/-- the least number from 1 on that is inverse to l modulo p -/
def IsInv (p l : Int) (m : Nat) : Prop := 1 ≤ m ∧ m ≤ 6 ∧ l * (m : Int) % p = 1 ∧ ∀ j : Nat, 1 ≤ j → j < m → l * (j : Int) % p ≠ 1
theorem inv_ex {p l : Int} (hp : isPrime p) (hl : l % p ≠ 0) : ∃ m, IsInv p l m := by
  have mk : ∀ m : Nat, 1 ≤ m → m ≤ 6 → l * (m : Int) % p = 1 → (∀ j : Nat, 1 ≤ j → j < m → l * (j : Int) % p ≠ 1) → ∃ m, IsInv p l m := fun m a b c d => ⟨m, a, b, c, d⟩
  rcases hp with rfl | rfl | rfl | rfl
  · refine mk 1 (by omega) (by omega) ?_ ?_
    · omega
    · intro j h1 h2; omega
  · have : l % 3 = 1 ∨ l % 3 = 2 := by omega
    rcases this with h | h
    · refine mk 1 (by omega) (by omega) (by omega) ?_; intro j h1 h2; omega
    · refine mk 2 (by omega) (by omega) (by omega) ?_
      intro j h1 h2
      obtain rfl : j = 1 := by omega
      omega
  · have : l % 5 = 1 ∨ l % 5 = 2 ∨ l % 5 = 3 ∨ l % 5 = 4 := by omega
    rcases this with h | h | h | h
    · refine mk 1 (by omega) (by omega) (by omega) ?_; intro j h1 h2; omega
    · refine mk 3 (by omega) (by omega) (by omega) ?_
      intro j h1 h2
      have : j = 1 ∨ j = 2 := by omega
      rcases this with rfl | rfl <;> omega
    · refine mk 2 (by omega) (by omega) (by omega) ?_
      intro j h1 h2
      obtain rfl : j = 1 := by omega
      omega
    · refine mk 4 (by omega) (by omega) (by omega) ?_
      intro j h1 h2
      have : j = 1 ∨ j = 2 ∨ j = 3 := by omega
      rcases this with rfl | rfl | rfl <;> omega
  · have : l % 7 = 1 ∨ l % 7 = 2 ∨ l % 7 = 3 ∨ l % 7 = 4 ∨ l % 7 = 5 ∨ l % 7 = 6 := by omega
    rcases this with h | h | h | h | h | h
    · refine mk 1 (by omega) (by omega) (by omega) ?_; intro j h1 h2; omega
    · refine mk 4 (by omega) (by omega) (by omega) ?_
      intro j h1 h2
      have : j = 1 ∨ j = 2 ∨ j = 3 := by omega
      rcases this with rfl | rfl | rfl <;> omega
    · refine mk 5 (by omega) (by omega) (by omega) ?_
      intro j h1 h2
      have : j = 1 ∨ j = 2 ∨ j = 3 ∨ j = 4 := by omega
      rcases this with rfl | rfl | rfl | rfl <;> omega
    · refine mk 2 (by omega) (by omega) (by omega) ?_
      intro j h1 h2
      obtain rfl : j = 1 := by omega
      omega
    · refine mk 3 (by omega) (by omega) (by omega) ?_
      intro j h1 h2
      have : j = 1 ∨ j = 2 := by omega
      rcases this with rfl | rfl <;> omega
    · refine mk 6 (by omega) (by omega) (by omega) ?_
      intro j h1 h2
      have : j = 1 ∨ j = 2 ∨ j = 3 ∨ j = 4 ∨ j = 5 := by omega
      rcases this with rfl | rfl | rfl | rfl | rfl <;> omega
theorem IsInv.uniq {p l : Int} {m m' : Nat} (h : IsInv p l m) (h' : IsInv p l m') : m = m' := by
  rcases Nat.lt_trichotomy m m' with a | a | a
  · exact absurd h.2.2.1 (h'.2.2.2 m h.1 a)
  · exact a
  · exact absurd h'.2.2.1 (h.2.2.2 m' h'.1 a)
/-- the first figure of a / l, m inverse to l -/
def ff (p a : Int) (m : Nat) : Int := a * (m : Int) % p
theorem ff_bd {p : Int} (hp : isPrime p) (a : Int) (m : Nat) : 0 ≤ ff p a m ∧ ff p a m < p := by
  have := prime_pos hp
  exact ⟨Int.emod_nonneg _ (by omega), Int.emod_lt_of_pos _ (by omega)⟩
theorem ff_dvd {p l a : Int} {m : Nat} (h : IsInv p l m) : ∃ t, a - ff p a m * l = p * t := by
  have h1 := Int.mul_ediv_add_emod (l * (m : Int)) p
  rw [h.2.2.1] at h1
  have h2 := Int.mul_ediv_add_emod (a * (m : Int)) p
  refine ⟨a * (m : Int) / p * l - a * (l * (m : Int) / p), ?_⟩
  show a - a * (m : Int) % p * l = _
  generalize a * (m : Int) / p = q at *
  generalize l * (m : Int) / p = t at *
  have h3 : a * (m : Int) % p = a * (m : Int) - p * q := by omega
  rw [h3, Int.sub_mul, Int.mul_sub, Int.mul_right_comm a, Int.mul_assoc a l, ← h1, Int.mul_add, Int.mul_one, ← Int.mul_assoc p q l, Int.mul_left_comm a p t]
  omega
theorem ff_rest {p l a : Int} {m : Nat} (hp : isPrime p) (h : IsInv p l m) : a = p * ((a - ff p a m * l) / p) + ff p a m * l := by
  have pp := prime_pos hp
  obtain ⟨t, ht⟩ := ff_dvd (a := a) h
  rw [ht, Int.mul_ediv_cancel_left _ (by omega)]
  omega
/-- the first n figures of a / l -/
def figs (p l : Int) (m : Nat) : Nat → Int → List Int
  | 0, _ => []
  | n + 1, a => ff p a m :: figs p l m n ((a - ff p a m * l) / p)
theorem figs_len (p l : Int) (m : Nat) : ∀ (n : Nat) (a : Int), (figs p l m n a).length = n
  | 0, _ => rfl
  | n + 1, a => by rw [figs, List.length_cons, figs_len p l m n]
theorem figs_nums {p : Int} (hp : isPrime p) (l : Int) (m : Nat) : ∀ (n : Nat) (a : Int), nums p (figs p l m n a)
  | 0, _ => fun x hx => by cases hx
  | n + 1, a => fun x hx => by
    rcases List.mem_cons.mp hx with rfl | hx
    · exact ff_bd hp a m
    · exact figs_nums hp l m n _ x hx
/-- the value of a row -/
def val (p : Int) (row : List Int) : Int := row.foldr (fun n v => v * p + n) 0
theorem val_nil (p : Int) : val p [] = 0 := rfl
theorem val_cons (p x : Int) (row : List Int) : val p (x :: row) = val p row * p + x := rfl
theorem val_rev (p : Int) (row : List Int) : row.reverse.foldl (fun v n => v * p + n) 0 = val p row := by rw [List.foldl_reverse]; rfl
theorem val_bd {p : Int} (hp : isPrime p) : ∀ row : List Int, nums p row → 0 ≤ val p row ∧ val p row < p ^ row.length
  | [], _ => by simp [val]
  | x :: row, h => by
    have pp := prime_pos hp
    obtain ⟨h1, h2⟩ := val_bd hp row fun y hy => h y (List.mem_cons_of_mem _ hy)
    have hx := h x List.mem_cons_self
    rw [val_cons, List.length_cons, Int.pow_succ]
    have h3 : 0 ≤ val p row * p := Int.mul_nonneg h1 (by omega)
    have h4 : val p row * p + p ≤ p ^ row.length * p := by
      have : (val p row + 1) * p ≤ p ^ row.length * p := Int.mul_le_mul_of_nonneg_right (by omega) (by omega)
      rw [Int.add_mul, Int.one_mul] at this
      exact this
    omega
/-- the figures of a, as the law reckons them -/
def digs (p : Int) : Nat → Int → List Int
  | 0, _ => []
  | n + 1, a => a % p :: digs p n (a / p)
theorem inv_one {p : Int} (hp : isPrime p) : IsInv p 1 1 := by
  have pp := prime_pos hp
  refine ⟨by omega, by omega, ?_, fun j h1 h2 => by omega⟩
  rw [Int.one_mul]
  exact Int.emod_eq_of_lt (by omega) (by omega)
theorem figs_one {p : Int} (hp : isPrime p) : ∀ (n : Nat) (a : Int), figs p 1 1 n a = digs p n a
  | 0, _ => rfl
  | n + 1, a => by
    have pp := prime_pos hp
    have h1 : ff p a 1 = a % p := by simp [ff]
    have h2 : (a - a % p * 1) / p = a / p := by
      have := Int.mul_ediv_add_emod a p
      rw [Int.mul_one, show a - a % p = p * (a / p) by omega, Int.mul_ediv_cancel_left _ (by omega)]
    rw [figs, digs, h1, h2, figs_one hp n]
theorem digs_len (p : Int) : ∀ (n : Nat) (a : Int), (digs p n a).length = n
  | 0, _ => rfl
  | n + 1, a => by rw [digs, List.length_cons, digs_len p n]
theorem figs_val {p l : Int} {m : Nat} (hp : isPrime p) (h : IsInv p l m) : ∀ (n : Nat) (a : Int), ∃ t, a - val p (figs p l m n a) * l = p ^ n * t
  | 0, a => ⟨a, by simp [figs, val]⟩
  | n + 1, a => by
    obtain ⟨t, ht⟩ := figs_val hp h n ((a - ff p a m * l) / p)
    have hr := ff_rest (a := a) hp h
    refine ⟨t, ?_⟩
    rw [figs, val_cons]
    generalize (a - ff p a m * l) / p = a' at *
    generalize val p (figs p l m n a') = w at *
    generalize ff p a m = d at *
    rw [Int.pow_succ, Int.mul_assoc, Int.mul_comm p t, ← Int.mul_assoc, ← ht, Int.sub_mul, Int.add_mul, hr, Int.mul_right_comm w p l]
    generalize w * l * p = z
    rw [Int.mul_comm p a']
    omega
theorem pow_pos' {p : Int} (hp : isPrime p) (n : Nat) : 0 < p ^ n := Int.pow_pos (by have := prime_pos hp; omega)
theorem digs_val {p : Int} (hp : isPrime p) (n : Nat) (a : Int) : val p (digs p n a) = a % p ^ n := by
  have h := figs_val hp (inv_one hp) n a
  have hn := figs_nums hp 1 1 n a
  rw [figs_one hp] at h hn
  obtain ⟨t, ht⟩ := h
  have hb := val_bd hp _ hn
  rw [digs_len] at hb
  rw [Int.mul_one] at ht
  have : a = val p (digs p n a) + p ^ n * t := by omega
  rw [this, Int.add_mul_emod_self_left]
  rw [← this]
  exact (Int.emod_eq_of_lt hb.1 hb.2).symm
/-- a number below 2 ^ n has a small log -/
theorem log_lt {a : Int} {n : Nat} (h : a.natAbs < 2 ^ n) (hn : 0 < n) : a.natAbs.log2 < n := by
  by_cases h0 : a.natAbs = 0
  · rw [h0]
    simpa using hn
  · exact (Nat.log2_lt h0).mpr h
theorem pow_le' {p : Int} (hp : isPrime p) : ∀ n : Nat, p ^ n ≤ 8 ^ n
  | 0 => by simp
  | n + 1 => by
    have pp := prime_pos hp
    have h1 := pow_le' hp n
    have h2 := pow_pos' hp n
    rw [Int.pow_succ, Int.pow_succ]
    exact Int.mul_le_mul h1 (by omega) (by omega) (by omega)
theorem val_log {p : Int} (hp : isPrime p) {row : List Int} (h : nums p row) {n : Nat} (hl : row.length ≤ n) : (val p row).natAbs.log2 < 3 * n + 1 := by
  obtain ⟨h1, h2⟩ := val_bd hp row h
  apply log_lt _ (by omega)
  have h3 := pow_le' hp row.length
  have h4 : (8 : Int) ^ row.length = ((2 ^ (3 * row.length) : Nat) : Int) := by
    rw [Nat.pow_mul]
    norm_cast
  have h5 : 2 ^ (3 * row.length) ≤ 2 ^ (3 * n + 1) := Nat.pow_le_pow_right (by omega) (by omega)
  omega
end IPL
end
section
set_option linter.all false
set_option maxRecDepth 8000
/-! Fig2: rows of fractions: uniqueness, sums, products. -/
namespace IPL
open IP
open PySem (PyData)
theorem ff_uniq {p l a x : Int} {m : Nat} (h : IsInv p l m) (hx : 0 ≤ x ∧ x < p) {s : Int} (e : a - x * l = p * s) : x = ff p a m := by
  have h1 := Int.mul_ediv_add_emod (l * (m : Int)) p
  rw [h.2.2.1] at h1
  generalize l * (m : Int) / p = q at h1
  have h2 : a * (m : Int) = x + p * (s * (m : Int) + x * q) := by
    have : a = x * l + p * s := by omega
    rw [this, Int.add_mul, Int.mul_assoc x l, ← h1, Int.mul_add, Int.mul_one, Int.mul_add, Int.mul_assoc p s, Int.mul_left_comm x p q]
    omega
  unfold ff
  rw [h2, Int.add_mul_emod_self_left]
  exact (Int.emod_eq_of_lt hx.1 hx.2).symm
theorem figs_uniq {p l : Int} {m : Nat} (hp : isPrime p) (h : IsInv p l m) : ∀ (n : Nat) (w : List Int) (a t : Int), nums p w → w.length = n → a - val p w * l = p ^ n * t → w = figs p l m n a
  | 0, w, a, t, _, hl, _ => by
    rw [List.length_eq_zero_iff.mp hl]
    rfl
  | n + 1, [], a, t, _, hl, _ => by cases hl
  | n + 1, x :: w, a, t, hn, hl, e => by
    have pp := prime_pos hp
    rw [val_cons, Int.pow_succ, Int.mul_assoc, Int.mul_left_comm, Int.add_mul] at e
    have e1 : a - x * l = p * (p ^ n * t + val p w * l) := by
      rw [Int.mul_add, ← e, Int.mul_right_comm (val p w) p l, Int.mul_comm p (val p w * l)]
      omega
    have hx := ff_uniq h (hn x List.mem_cons_self) e1
    rw [figs, ← hx]
    congr 1
    refine figs_uniq hp h n w _ t (fun y hy => hn y (List.mem_cons_of_mem _ hy)) (by simpa using hl) ?_
    rw [e1, Int.mul_ediv_cancel_left _ (by omega)]
    omega
theorem figs_scale {p l k : Int} {m m' : Nat} (hp : isPrime p) (h : IsInv p l m) (h' : IsInv p (l * k) m') (n : Nat) (a : Int) : figs p l m n a = figs p (l * k) m' n (a * k) := by
  obtain ⟨t, ht⟩ := figs_val hp h n a
  refine figs_uniq hp h' n _ _ (t * k) (figs_nums hp _ _ _ _) (figs_len _ _ _ _ _) ?_
  rw [← Int.mul_assoc, ← Int.mul_assoc, ← ht, Int.sub_mul]
theorem digs_mod {p : Int} (hp : isPrime p) (n : Nat) (v : Int) : ∃ t, v - val p (digs p n v) = p ^ n * t := by
  rw [digs_val hp]
  exact ⟨v / p ^ n, by have := Int.mul_ediv_add_emod v (p ^ n); omega⟩
theorem digs_nums {p : Int} (hp : isPrime p) (n : Nat) (v : Int) : nums p (digs p n v) := by
  rw [← figs_one hp]
  exact figs_nums hp _ _ _ _
theorem figs_sum {p l l' : Int} {m m' m2 : Nat} (hp : isPrime p) (h : IsInv p l m) (h' : IsInv p l' m') (h2 : IsInv p (l * l') m2) (n : Nat) (a b : Int) :
    digs p n (val p (figs p l m n a) + val p (figs p l' m' n b)) = figs p (l * l') m2 n (a * l' + b * l) := by
  obtain ⟨t, ht⟩ := figs_val hp h n a
  obtain ⟨t', ht'⟩ := figs_val hp h' n b
  generalize val p (figs p l m n a) = F at *
  generalize val p (figs p l' m' n b) = R at *
  obtain ⟨s, hs⟩ := digs_mod hp n (F + R)
  refine figs_uniq hp h2 n _ _ (t * l' + t' * l + s * (l * l')) (digs_nums hp n _) (digs_len p n _) ?_
  generalize val p (digs p n (F + R)) = w at *
  generalize p ^ n = P at *
  grind
theorem figs_prod {p l l' : Int} {m m' m2 : Nat} (hp : isPrime p) (h : IsInv p l m) (h' : IsInv p l' m') (h2 : IsInv p (l * l') m2) (n : Nat) (a b : Int) :
    digs p n (val p (figs p l m n a) * val p (figs p l' m' n b)) = figs p (l * l') m2 n (a * b) := by
  obtain ⟨t, ht⟩ := figs_val hp h n a
  obtain ⟨t', ht'⟩ := figs_val hp h' n b
  generalize val p (figs p l m n a) = F at *
  generalize val p (figs p l' m' n b) = R at *
  obtain ⟨s, hs⟩ := digs_mod hp n (F * R)
  refine figs_uniq hp h2 n _ _ (t * b + t' * F * l + s * (l * l')) (digs_nums hp n _) (digs_len p n _) ?_
  generalize val p (digs p n (F * R)) = w at *
  generalize p ^ n = P at *
  grind
theorem val_turn {p : Int} : ∀ w : List Int, val p (w.map fun x => p - 1 - x) = p ^ w.length - 1 - val p w
  | [] => by simp [val]
  | x :: w => by
    rw [List.map_cons, val_cons, val_cons, val_turn w, List.length_cons, Int.pow_succ]
    grind
theorem figs_turn {p l : Int} {m : Nat} (hp : isPrime p) (h : IsInv p l m) (n : Nat) (a : Int) : (figs p l m n a).map (fun x => p - 1 - x) = figs p l m n (0 - a - l) := by
  obtain ⟨t, ht⟩ := figs_val hp h n a
  have hn := figs_nums hp l m n a
  have hl := figs_len p l m n a
  refine figs_uniq hp h n _ _ (0 - t - l) ?_ (by rw [List.length_map, hl]) ?_
  · intro y hy
    obtain ⟨x, hx, rfl⟩ := List.mem_map.mp hy
    have := hn x hx
    omega
  · rw [val_turn, hl]
    generalize val p (figs p l m n a) = F at *
    generalize p ^ n = P at *
    grind
theorem mul_bd {a b A B : Int} (h1 : -A ≤ a ∧ a ≤ A) (h2 : -B ≤ b ∧ b ≤ B) : -(A * B) ≤ a * b ∧ a * b ≤ A * B := by
  have h := Nat.mul_le_mul (show a.natAbs ≤ A.toNat by omega) (show b.natAbs ≤ B.toNat by omega)
  rw [← Int.natAbs_mul] at h
  have e : ((A.toNat * B.toNat : Nat) : Int) = A * B := by
    rw [Int.natCast_mul, Int.toNat_of_nonneg (by omega), Int.toNat_of_nonneg (by omega)]
  omega
theorem low_mul {p l l' : Int} (hp : isPrime p) (h : l % p ≠ 0) (h' : l' % p ≠ 0) : l * l' % p ≠ 0 := by
  obtain ⟨m, hm⟩ := inv_ex hp h
  obtain ⟨m', hm'⟩ := inv_ex hp h'
  intro e
  have pp := prime_pos hp
  have e1 := Int.mul_ediv_add_emod (l * l') p
  have e2 := Int.mul_ediv_add_emod (l * (m : Int)) p
  have e3 := Int.mul_ediv_add_emod (l' * (m' : Int)) p
  rw [e] at e1
  rw [hm.2.2.1] at e2
  rw [hm'.2.2.1] at e3
  generalize l * l' / p = q1 at *
  generalize l * (m : Int) / p = q2 at *
  generalize l' * (m' : Int) / p = q3 at *
  have e4 : (1 : Int) = p * (q1 * (m : Int) * (m' : Int) - p * q2 * q3 - q2 - q3) := by grind
  have e5 : p ∣ 1 := ⟨_, e4⟩
  have := Int.le_of_dvd (by omega) e5
  omega
end IPL
end
section
set_option linter.all false
set_option maxRecDepth 8000
/-! Pol2: sums of polynomials, division with a rest. -/
namespace IPL
open IP
open PySem (PyData)
theorem getD_range (f : Nat → Int) (n i : Nat) : ((List.range n).map f).getD i 0 = if i < n then f i else 0 := by
  by_cases h : i < n
  · simp [List.getD, h]
  · simp [List.getD, h]
def Poly (p : Int) (a : List Int) : Prop := nums p a ∧ polyL a
theorem poly_nil (p : Int) : Poly p [] := ⟨(fun x h => by cases h), .inl rfl⟩
theorem poly_ext {a b : List Int} (ha : polyL a) (hb : polyL b) (h : ∀ i, a.getD i 0 = b.getD i 0) : a = b := by
  rw [← trim_of_poly ha, ← trim_of_poly hb]
  exact trim_ext h
def add (p : Int) (a b : List Int) : List Int := trim ((List.range (max a.length b.length)).map fun i => (a.getD i 0 + b.getD i 0) % p)
theorem add_getD {p : Int} (a b : List Int) (i : Nat) : (add p a b).getD i 0 = (a.getD i 0 + b.getD i 0) % p := by
  unfold add
  rw [trim_getD, getD_range]
  by_cases h : i < max a.length b.length
  · rw [if_pos h]
  · rw [if_neg h, getD_big a i (by omega), getD_big b i (by omega)]
    simp
theorem nums_range {p : Int} (h0 : 0 < p) (f : Nat → Int) (n : Nat) : nums p ((List.range n).map fun i => f i % p) := by
  intro x hx
  obtain ⟨k, _, rfl⟩ := List.mem_map.mp hx
  exact ⟨Int.emod_nonneg _ (by omega), Int.emod_lt_of_pos _ h0⟩
theorem add_poly {p : Int} (h0 : 0 < p) (a b : List Int) : Poly p (add p a b) := ⟨trim_nums (nums_range h0 _ _), trim_poly _⟩
theorem mul_poly {p : Int} (h0 : 0 < p) (a b : List Int) : Poly p (mul p a b) := ⟨trim_nums (nums_range h0 _ _), trim_poly _⟩
theorem add_len (p : Int) (a b : List Int) : (add p a b).length ≤ max a.length b.length := by
  have := trim_le ((List.range (max a.length b.length)).map fun i => (a.getD i 0 + b.getD i 0) % p)
  simpa [add] using this
theorem mul_len (p : Int) (a b : List Int) : (mul p a b).length ≤ a.length + b.length := by
  have := trim_le ((List.range (a.length + b.length)).map fun i => ab a b a.length i % p)
  simpa [mul] using this
theorem add_of {p : Int} {a b r : List Int} (h : ∀ i, r.getD i 0 = (a.getD i 0 + b.getD i 0) % p) : trim r = add p a b := by
  unfold add
  apply trim_ext
  intro i
  have e := add_getD (p := p) a b i
  unfold add at e
  rw [trim_getD] at e
  rw [h, e]
theorem sg_add (f g : Nat → Int) : ∀ n, sg (fun j => f j + g j) n = sg f n + sg g n
  | 0 => rfl
  | n + 1 => by
    show sg (fun j => f j + g j) n + (f n + g n) = sg f n + f n + (sg g n + g n)
    rw [sg_add f g n]
    omega
theorem sg_one (m : Nat) (v : Int) : ∀ n, sg (fun j => if j = m then v else 0) n = if m < n then v else 0
  | 0 => by simp [sg]
  | n + 1 => by
    show sg (fun j => if j = m then v else 0) n + (if n = m then v else 0) = _
    rw [sg_one m v n]
    by_cases h1 : m < n
    · rw [if_pos h1, if_neg (by omega), if_pos (by omega)]
      omega
    · by_cases h2 : n = m
      · subst h2
        simp
      · rw [if_neg h1, if_neg h2, if_neg (by omega)]
        rfl
/-- a number put at a place where 0 stands adds so much to a product -/
theorem cv_set {q b : List Int} {m : Nat} {f : Int} (hm : m < q.length) (h0 : q.getD m 0 = 0) (i : Nat) : cv (q.set m f) b i = cv q b i + (if m ≤ i then f * b.getD (i - m) 0 else 0) := by
  have e : (fun j => (q.set m f).getD j 0 * b.getD (i - j) 0) = fun j => q.getD j 0 * b.getD (i - j) 0 + (if j = m then f * b.getD (i - m) 0 else 0) := by
    funext j
    rw [getD_set q m j f hm]
    by_cases h : j = m
    · subst h
      rw [if_pos rfl, if_pos rfl, h0, Int.zero_mul, Int.zero_add]
    · rw [if_neg h, if_neg h, Int.add_zero]
  unfold cv
  rw [e, sg_add, sg_one]
  congr 1
  by_cases h : m ≤ i
  · rw [if_pos (by omega), if_pos h]
  · rw [if_neg (by omega), if_neg h]
/-- one turn of a division: a multiple of b is taken off at s -/
def dstep (p sc : Int) (b : List Int) (s : Nat) (r : List Int) : List Int :=
  (List.range r.length).map fun i => if s ≤ i ∧ i < s + b.length then (r.getD i 0 - r.getD (s + b.length - 1) 0 * sc % p * b.getD (i - s) 0) % p else r.getD i 0
theorem dstep_len (p sc : Int) (b : List Int) (s : Nat) (r : List Int) : (dstep p sc b s r).length = r.length := by simp [dstep]
theorem dstep_getD {p sc : Int} {b : List Int} {s : Nat} {r : List Int} (hs : s + b.length ≤ r.length) (i : Nat) :
    (dstep p sc b s r).getD i 0 = if s ≤ i ∧ i < s + b.length then (r.getD i 0 - r.getD (s + b.length - 1) 0 * sc % p * b.getD (i - s) 0) % p else r.getD i 0 := by
  unfold dstep
  rw [getD_range]
  by_cases h : i < r.length
  · rw [if_pos h]
  · rw [if_neg h, if_neg (by omega), getD_big r i (by omega)]
theorem dstep_nums {p sc : Int} (h0 : 0 < p) {b : List Int} {s : Nat} {r : List Int} (hr : nums p r) : nums p (dstep p sc b s r) := by
  intro x hx
  obtain ⟨k, hk, rfl⟩ := List.mem_map.mp hx
  split
  · exact ⟨Int.emod_nonneg _ (by omega), Int.emod_lt_of_pos _ h0⟩
  · exact nums_getD h0 hr k
/-- the quotient's numbers and the rest, shifts m - 1 down to 0 -/
def drun (p sc : Int) (b : List Int) : Nat → List Int → List Int → List Int × List Int
  | 0, q, r => (q, r)
  | m + 1, q, r => drun p sc b m (q.set m (r.getD (m + b.length - 1) 0 * sc % p)) (dstep p sc b m r)
theorem drun_rest (p sc : Int) (b : List Int) : ∀ (m : Nat) (q q' r : List Int), (drun p sc b m q r).2 = (drun p sc b m q' r).2
  | 0, _, _, _ => rfl
  | m + 1, q, q', r => drun_rest p sc b m _ _ _
theorem emod_add_congr {p x y z : Int} (h : x % p = y % p) : (x + z) % p = (y + z) % p := by
  rw [Int.add_emod, h, ← Int.add_emod]
theorem drun_ok {p sc : Int} (hp : 0 < p) {b : List Int} (hb : b ≠ []) (hsc : sc * b.getD (b.length - 1) 0 % p = 1 % p) : ∀ (m : Nat) (q r : List Int), m ≤ q.length → m + b.length ≤ r.length + 1 → nums p q → nums p r →
    (∀ j, j < m → q.getD j 0 = 0) → (∀ i, m + b.length - 1 ≤ i → r.getD i 0 = 0) →
    nums p (drun p sc b m q r).1 ∧ nums p (drun p sc b m q r).2 ∧ (drun p sc b m q r).1.length = q.length ∧ (drun p sc b m q r).2.length = r.length ∧ (∀ i, b.length - 1 ≤ i → (drun p sc b m q r).2.getD i 0 = 0) ∧
      ∀ i, (cv (drun p sc b m q r).1 b i + (drun p sc b m q r).2.getD i 0) % p = (cv q b i + r.getD i 0) % p
  | 0, q, r, _, _, hq, hr, _, hz => ⟨hq, hr, rfl, rfl, fun i hi => hz i (by omega), fun i => rfl⟩
  | m + 1, q, r, h1, h2, hq, hr, h3, h4 => by
    have hbl : 0 < b.length := List.length_pos_iff.mpr hb
    have hfb : 0 ≤ r.getD (m + b.length - 1) 0 * sc % p ∧ r.getD (m + b.length - 1) 0 * sc % p < p := ⟨Int.emod_nonneg _ (by omega), Int.emod_lt_of_pos _ hp⟩
    have hg := fun i => dstep_getD (p := p) (sc := sc) (b := b) (s := m) (r := r) (by omega) i
    have ih := drun_ok hp hb hsc m (q.set m (r.getD (m + b.length - 1) 0 * sc % p)) (dstep p sc b m r) (by rw [List.length_set]; omega) (by rw [dstep_len]; omega)
      (fun x hx => by
        rcases List.mem_or_eq_of_mem_set hx with h | rfl
        · exact hq x h
        · exact hfb) (dstep_nums hp hr)
      (fun j hj => by rw [getD_set q m j _ (by omega), if_neg (by omega)]; exact h3 j (by omega))
      (fun i hi => by
        rw [hg]
        by_cases hi2 : i = m + b.length - 1
        · subst hi2
          rw [if_pos (by omega), show m + b.length - 1 - m = b.length - 1 by omega]
          generalize r.getD (m + b.length - 1) 0 = t
          generalize b.getD (b.length - 1) 0 = l at hsc ⊢
          have e1 := Int.mul_ediv_add_emod (t * sc) p
          have e2 := Int.mul_ediv_add_emod (sc * l) p
          have e3 := Int.mul_ediv_add_emod 1 p
          rw [hsc] at e2
          generalize t * sc / p = u at e1
          generalize t * sc % p = f at e1 ⊢
          generalize sc * l / p = w at e2
          generalize (1 : Int) / p = z at e3
          generalize (1 : Int) % p = o at e2 e3
          apply Int.emod_eq_zero_of_dvd
          exact ⟨t * (z - w) + u * l, by grind⟩
        · rw [if_neg (by omega)]
          exact h4 i (by omega))
    refine ⟨ih.1, ih.2.1, ?_, ?_, ih.2.2.2.2.1, fun i => ?_⟩
    · rw [show drun p sc b (m + 1) q r = drun p sc b m (q.set m (r.getD (m + b.length - 1) 0 * sc % p)) (dstep p sc b m r) from rfl, ih.2.2.1, List.length_set]
    · rw [show drun p sc b (m + 1) q r = drun p sc b m (q.set m (r.getD (m + b.length - 1) 0 * sc % p)) (dstep p sc b m r) from rfl, ih.2.2.2.1, dstep_len]
    · refine (ih.2.2.2.2.2 i).trans ?_
      rw [cv_set (by omega) (h3 m (by omega)), hg]
      generalize r.getD (m + b.length - 1) 0 * sc % p = f
      by_cases hi : m ≤ i
      · by_cases hi2 : i < m + b.length
        · rw [if_pos hi, if_pos ⟨hi, hi2⟩, Int.add_emod_emod]
          congr 1
          omega
        · rw [if_pos hi, if_neg (by omega), getD_big b (i - m) (by omega)]
          congr 1
          omega
      · rw [if_neg hi, if_neg (by omega)]
        congr 1
        omega
theorem small_eq {p x y : Int} (hx : 0 ≤ x ∧ x < p) (hy : 0 ≤ y ∧ y < p) (h : p ∣ x - y) : x = y := by
  rw [← emod_small hx, ← emod_small hy]
  exact emod_of h
theorem cv_sub (q q' b : List Int) (i : Nat) : cv q b i - cv q' b i = sg (fun j => (q.getD j 0 - q'.getD j 0) * b.getD (i - j) 0) (i + 1) := by
  have e : (fun j => q.getD j 0 * b.getD (i - j) 0) = fun j => q'.getD j 0 * b.getD (i - j) 0 + (q.getD j 0 - q'.getD j 0) * b.getD (i - j) 0 := by
    funext j
    rw [Int.sub_mul]
    omega
  unfold cv
  rw [e, sg_add]
  omega
/-- there is one quotient and one rest -/
theorem div_uniq {p sc : Int} (hp : 0 < p) {b : List Int} (hb : b ≠ []) (hsc : sc * b.getD (b.length - 1) 0 % p = 1 % p) {q q' r r' : List Int} (hq : nums p q) (hq' : nums p q') (hr : nums p r) (hr' : nums p r')
    (h1 : ∀ i, b.length - 1 ≤ i → r.getD i 0 = 0) (h2 : ∀ i, b.length - 1 ≤ i → r'.getD i 0 = 0) (h : ∀ i, (cv q b i + r.getD i 0) % p = (cv q' b i + r'.getD i 0) % p) :
    (∀ i, q.getD i 0 = q'.getD i 0) ∧ ∀ i, r.getD i 0 = r'.getD i 0 := by
  have hbl : 0 < b.length := List.length_pos_iff.mpr hb
  have hq0 := fun i => nums_getD hp hq i
  have hq0' := fun i => nums_getD hp hq' i
  have key : ∀ (e d : Nat), max q.length q'.length ≤ d + e → ∀ j, d ≤ j → q.getD j 0 = q'.getD j 0 := by
    intro e
    induction e with
    | zero => intro d hd j hj; rw [getD_big q j (by omega), getD_big q' j (by omega)]
    | succ e ih =>
      intro d hd j hj
      by_cases hjd : j = d
      · subst hjd
        have ih' := ih (j + 1) (by omega)
        have hs := cv_sub q q' b (j + (b.length - 1))
        have e1 : sg (fun t => (q.getD t 0 - q'.getD t 0) * b.getD (j + (b.length - 1) - t) 0) (j + (b.length - 1) + 1) = sg (fun t => if t = j then (q.getD j 0 - q'.getD j 0) * b.getD (b.length - 1) 0 else 0) (j + (b.length - 1) + 1) := by
          apply sg_congr
          intro t ht
          by_cases ht2 : t = j
          · subst ht2
            rw [if_pos rfl, show t + (b.length - 1) - t = b.length - 1 by omega]
          · rw [if_neg ht2]
            rcases Nat.lt_or_ge t j with h3 | h3
            · rw [getD_big b _ (by omega), Int.mul_zero]
            · rw [ih' t (by omega), Int.sub_self, Int.zero_mul]
        rw [e1, sg_one, if_pos (by omega)] at hs
        have h5 := h (j + (b.length - 1))
        rw [h1 _ (by omega), h2 _ (by omega), Int.add_zero, Int.add_zero] at h5
        have h6 : p ∣ cv q b (j + (b.length - 1)) - cv q' b (j + (b.length - 1)) := Int.dvd_of_emod_eq_zero (Int.emod_eq_emod_iff_emod_sub_eq_zero.mp h5)
        rw [hs] at h6
        obtain ⟨u, hu⟩ := h6
        apply small_eq (hq0 j) (hq0' j)
        generalize q.getD j 0 - q'.getD j 0 = x at *
        generalize b.getD (b.length - 1) 0 = l at *
        have e2 := Int.mul_ediv_add_emod (sc * l) p
        have e3 := Int.mul_ediv_add_emod 1 p
        rw [hsc] at e2
        generalize sc * l / p = w at e2
        generalize (1 : Int) / p = z at e3
        generalize (1 : Int) % p = o at e2 e3
        exact ⟨u * sc + x * (z - w), by grind⟩
      · exact ih (d + 1) (by omega) j (by omega)
  have hqq : ∀ i, q.getD i 0 = q'.getD i 0 := fun i => key (max q.length q'.length) 0 (by omega) i (by omega)
  refine ⟨hqq, fun i => ?_⟩
  have h5 := h i
  rw [cv_ext (a' := q') (b' := b) hqq (fun _ => rfl) i] at h5
  apply small_eq (nums_getD hp hr i) (nums_getD hp hr' i)
  have h6 : p ∣ (cv q' b i + r.getD i 0) - (cv q' b i + r'.getD i 0) := Int.dvd_of_emod_eq_zero (Int.emod_eq_emod_iff_emod_sub_eq_zero.mp h5)
  rw [show cv q' b i + r.getD i 0 - (cv q' b i + r'.getD i 0) = r.getD i 0 - r'.getD i 0 by omega] at h6
  exact h6
theorem inv_lt {p l : Int} {m : Nat} (hp : isPrime p) (h : IsInv p l m) : (m : Int) < p := by
  have pp := prime_pos hp
  rcases Int.lt_or_le (m : Int) p with a | a
  · exact a
  · exfalso
    have h1 := h.1
    have h2 := h.2.2.1
    -- m less p would do as well, or m is p
    by_cases e : (m : Int) = p
    · rw [e, Int.mul_emod_left] at h2
      omega
    · refine h.2.2.2 (m - p.toNat) (by omega) (by omega) ?_
      rw [show ((m - p.toNat : Nat) : Int) = (m : Int) - p by omega, Int.mul_sub, Int.sub_emod, Int.mul_emod_left, Int.sub_zero, Int.emod_emod]
      exact h2
end IPL
end
section
set_option linter.all false
set_option maxRecDepth 8000
namespace IPL
open IP
open PySem (PyData)
/-- quotient and rest -/
def dv (p sc : Int) (a b : List Int) : List Int × List Int := drun p sc b (a.length + 1 - b.length) (List.replicate (a.length + 1 - b.length) 0) a
theorem dv_ok {p sc : Int} (hp : 0 < p) {a b : List Int} (ha : nums p a) (hb : b ≠ []) (hsc : sc * b.getD (b.length - 1) 0 % p = 1 % p) :
    nums p (dv p sc a b).1 ∧ nums p (dv p sc a b).2 ∧ (dv p sc a b).1.length = a.length + 1 - b.length ∧ (dv p sc a b).2.length = a.length ∧ (∀ i, b.length - 1 ≤ i → (dv p sc a b).2.getD i 0 = 0) ∧
      ∀ i, (cv (dv p sc a b).1 b i + (dv p sc a b).2.getD i 0) % p = a.getD i 0 % p := by
  have hbl : 0 < b.length := List.length_pos_iff.mpr hb
  by_cases hl : b.length ≤ a.length + 1
  · have h := drun_ok hp hb hsc (a.length + 1 - b.length) (List.replicate (a.length + 1 - b.length) 0) a (by simp) (by omega) (fun x hx => by
      rw [(List.mem_replicate.mp hx).2]
      omega) ha (fun j _ => getD_zeros _ j) (fun i hi => getD_big a i (by omega))
    rw [List.length_replicate] at h
    refine ⟨h.1, h.2.1, h.2.2.1, h.2.2.2.1, h.2.2.2.2.1, fun i => ?_⟩
    rw [show dv p sc a b = drun p sc b (a.length + 1 - b.length) (List.replicate (a.length + 1 - b.length) 0) a from rfl, h.2.2.2.2.2 i]
    have : cv (List.replicate (a.length + 1 - b.length) 0) b i = 0 := sg_zero fun j _ => by rw [getD_zeros, Int.zero_mul]
    rw [this, Int.zero_add]
  · have e0 : a.length + 1 - b.length = 0 := by omega
    have e : dv p sc a b = ([], a) := by
      unfold dv
      rw [e0]
      rfl
    rw [e]
    refine ⟨(fun x hx => by cases hx), ha, by rw [e0]; rfl, rfl, fun i hi => getD_big a i (by omega), fun i => ?_⟩
    have : cv [] b i = 0 := sg_zero fun j _ => by simp
    rw [this, Int.zero_add]
end IPL
end
section
set_option linter.all false
set_option maxRecDepth 8000
/-! Ser: series modulo a number, a commutative ring. -/
namespace IPL
open IP
open PySem (PyData)
/-- the product of two series -/
def conv (f g : Nat → Int) (i : Nat) : Int := sg (fun j => f j * g (i - j)) (i + 1)
theorem cv_conv (a b : List Int) (i : Nat) : cv a b i = conv (fun j => a.getD j 0) (fun j => b.getD j 0) i := rfl
theorem sg_mul_right (f : Nat → Int) (c : Int) : ∀ n, sg f n * c = sg (fun j => f j * c) n
  | 0 => by simp [sg]
  | n + 1 => by
    show (sg f n + f n) * c = sg (fun j => f j * c) n + f n * c
    rw [Int.add_mul, sg_mul_right f c n]
theorem sg_mul_left (f : Nat → Int) (c : Int) : ∀ n, c * sg f n = sg (fun j => c * f j) n
  | 0 => by simp [sg]
  | n + 1 => by
    show c * (sg f n + f n) = sg (fun j => c * f j) n + c * f n
    rw [Int.mul_add, sg_mul_left f c n]
theorem sg_tri (f : Nat → Nat → Int) : ∀ n, sg (fun j => sg (fun k => f k (j - k)) (j + 1)) n = sg (fun k => sg (fun l => f k l) (n - k)) n
  | 0 => rfl
  | n + 1 => by
    show sg (fun j => sg (fun k => f k (j - k)) (j + 1)) n + (sg (fun k => f k (n - k)) n + f n (n - n)) = sg (fun k => sg (fun l => f k l) (n + 1 - k)) n + sg (fun l => f n l) (n + 1 - n)
    have e : sg (fun k => sg (fun l => f k l) (n + 1 - k)) n = sg (fun k => sg (fun l => f k l) (n - k) + f k (n - k)) n := sg_congr fun k hk => by
      rw [show n + 1 - k = (n - k) + 1 by omega]
      rfl
    rw [e, sg_add, sg_tri f n, show n + 1 - n = 0 + 1 by omega]
    show _ + (_ + f n (n - n)) = _ + _ + (sg (fun l => f n l) 0 + f n 0)
    rw [Nat.sub_self]
    simp only [sg]
    omega
theorem conv_assoc (a b c : Nat → Int) (i : Nat) : conv (conv a b) c i = conv a (conv b c) i := by
  have h := sg_tri (fun k l => a k * b l * c (i - k - l)) (i + 1)
  have e1 : conv (conv a b) c i = sg (fun j => sg (fun k => a k * b (j - k) * c (i - k - (j - k))) (j + 1)) (i + 1) := by
    unfold conv
    refine sg_congr fun j hj => ?_
    rw [sg_mul_right]
    refine sg_congr fun k hk => ?_
    rw [show i - k - (j - k) = i - j by omega]
  have e2 : conv a (conv b c) i = sg (fun k => sg (fun l => a k * b l * c (i - k - l)) (i + 1 - k)) (i + 1) := by
    unfold conv
    refine sg_congr fun k hk => ?_
    rw [sg_mul_left, show i - k + 1 = i + 1 - k by omega]
    exact sg_congr fun l hl => by rw [Int.mul_assoc]
  rw [e1, e2, h]
theorem conv_comm (a b : Nat → Int) (i : Nat) : conv a b i = conv b a i := by
  unfold conv
  rw [← sg_flip (fun j => a j * b (i - j)) (i + 1)]
  refine sg_congr fun j hj => ?_
  rw [show i - (i + 1 - 1 - j) = j by omega, show i + 1 - 1 - j = i - j by omega, Int.mul_comm]
theorem conv_add (a b c : Nat → Int) (i : Nat) : conv a (fun j => b j + c j) i = conv a b i + conv a c i := by
  unfold conv
  rw [← sg_add]
  exact sg_congr fun j hj => Int.mul_add _ _ _
def con (v : Int) (i : Nat) : Int := if i = 0 then v else 0
theorem conv_con (v : Int) (a : Nat → Int) (i : Nat) : conv (con v) a i = v * a i := by
  unfold conv
  rw [sg_front]
  have : sg (fun j => con v (j + 1) * a (i - (j + 1))) i = 0 := sg_zero fun j _ => by
    unfold con
    rw [if_neg (by omega), Int.zero_mul]
  rw [this, Int.add_zero]
  rfl
def serS (p : Int) : Setoid (Nat → Int) where
  r a b := ∀ i, a i % p = b i % p
  iseqv := ⟨fun _ _ => rfl, fun h i => (h i).symm, fun h h' i => (h i).trans (h' i)⟩
/-- series modulo p -/
def PQ (p : Int) := Quotient (serS p)
section
variable {p : Int}
def PQ.mk (p : Int) (a : Nat → Int) : PQ p := Quotient.mk (serS p) a
theorem PQ.ext {a b : Nat → Int} (h : ∀ i, a i % p = b i % p) : PQ.mk p a = PQ.mk p b := Quotient.sound (s := serS p) h
theorem PQ.eq {a b : Nat → Int} (h : PQ.mk p a = PQ.mk p b) : ∀ i, a i % p = b i % p := Quotient.exact (s := serS p) h
theorem conv_congr {a a' b b' : Nat → Int} (h : ∀ i, a i % p = a' i % p) (h' : ∀ i, b i % p = b' i % p) (i : Nat) : conv a b i % p = conv a' b' i % p := by
  apply emod_of
  refine sg_dvd fun j hj => ?_
  have h1 : p ∣ a j - a' j := Int.dvd_of_emod_eq_zero (Int.emod_eq_emod_iff_emod_sub_eq_zero.mp (h j))
  have h2 : p ∣ b (i - j) - b' (i - j) := Int.dvd_of_emod_eq_zero (Int.emod_eq_emod_iff_emod_sub_eq_zero.mp (h' (i - j)))
  obtain ⟨u, hu⟩ := h1
  obtain ⟨w, hw⟩ := h2
  exact ⟨u * b (i - j) + a' j * w, by grind⟩
instance : Add (PQ p) := ⟨Quotient.lift₂ (s₁ := serS p) (s₂ := serS p) (fun a b => PQ.mk p fun i => a i + b i) fun a b a' b' h h' => PQ.ext fun i => by rw [Int.add_emod, h i, h' i, ← Int.add_emod]⟩
instance : Mul (PQ p) := ⟨Quotient.lift₂ (s₁ := serS p) (s₂ := serS p) (fun a b => PQ.mk p (conv a b)) fun a b a' b' h h' => PQ.ext (conv_congr h h')⟩
instance : Neg (PQ p) := ⟨Quotient.lift (s := serS p) (fun a => PQ.mk p fun i => -a i) fun a a' h => PQ.ext fun i => by
  have h1 : p ∣ a i - a' i := Int.dvd_of_emod_eq_zero (Int.emod_eq_emod_iff_emod_sub_eq_zero.mp (h i))
  obtain ⟨u, hu⟩ := h1
  exact emod_of ⟨-u, by grind⟩⟩
instance : Sub (PQ p) := ⟨fun a b => a + -b⟩
instance : NatCast (PQ p) := ⟨fun n => PQ.mk p (con (n : Int))⟩
instance : IntCast (PQ p) := ⟨fun n => PQ.mk p (con n)⟩
instance PQ.of (n : Nat) : OfNat (PQ p) n := ⟨PQ.mk p (con (n : Int))⟩
instance : SMul Nat (PQ p) := ⟨fun n a => (n : PQ p) * a⟩
instance : SMul Int (PQ p) := ⟨fun n a => (n : PQ p) * a⟩
def PQ.pow (a : PQ p) : Nat → PQ p
  | 0 => PQ.mk p (con ((1 : Nat) : Int))
  | n + 1 => PQ.pow a n * a
instance : HPow (PQ p) Nat (PQ p) := ⟨PQ.pow⟩
theorem PQ.ind {P : PQ p → Prop} (h : ∀ a, P (PQ.mk p a)) (x : PQ p) : P x := Quotient.ind (s := serS p) h x
theorem PQ.rep (a : PQ p) : ∃ x, a = PQ.mk p x := by
  induction a using Quotient.ind
  exact ⟨_, rfl⟩
theorem mk_add (a b : Nat → Int) : PQ.mk p a + PQ.mk p b = PQ.mk p fun i => a i + b i := rfl
theorem mk_mul (a b : Nat → Int) : PQ.mk p a * PQ.mk p b = PQ.mk p (conv a b) := rfl
theorem mk_neg (a : Nat → Int) : -PQ.mk p a = PQ.mk p fun i => -a i := rfl
theorem PQ.exa {a b : Nat → Int} (h : ∀ i, a i = b i) : PQ.mk p a = PQ.mk p b := PQ.ext fun i => by rw [h i]
theorem pq_mul_comm (a b : PQ p) : a * b = b * a := by
  obtain ⟨x, rfl⟩ := PQ.rep a
  obtain ⟨y, rfl⟩ := PQ.rep b
  exact PQ.exa (conv_comm x y)
theorem con_add (u v : Int) (i : Nat) : con (u + v) i = con u i + con v i := by unfold con; split <;> omega
instance : Lean.Grind.CommRing (PQ p) where
  natCast := inferInstance
  ofNat := PQ.of
  nsmul := inferInstance
  npow := inferInstance
  intCast := inferInstance
  zsmul := inferInstance
  add_zero := fun a => by
    obtain ⟨x, rfl⟩ := PQ.rep a
    exact PQ.exa fun i => by simp [con]
  add_comm := fun a b => by
    obtain ⟨x, rfl⟩ := PQ.rep a
    obtain ⟨y, rfl⟩ := PQ.rep b
    exact PQ.exa fun i => Int.add_comm _ _
  add_assoc := fun a b c => by
    obtain ⟨x, rfl⟩ := PQ.rep a
    obtain ⟨y, rfl⟩ := PQ.rep b
    obtain ⟨z, rfl⟩ := PQ.rep c
    exact PQ.exa fun i => Int.add_assoc _ _ _
  mul_assoc := fun a b c => by
    obtain ⟨x, rfl⟩ := PQ.rep a
    obtain ⟨y, rfl⟩ := PQ.rep b
    obtain ⟨z, rfl⟩ := PQ.rep c
    exact PQ.exa (conv_assoc x y z)
  mul_one := fun a => by
    rw [pq_mul_comm]
    obtain ⟨x, rfl⟩ := PQ.rep a
    exact PQ.exa fun i => by rw [conv_con]; simp
  one_mul := fun a => by
    obtain ⟨x, rfl⟩ := PQ.rep a
    exact PQ.exa fun i => by rw [conv_con]; simp
  left_distrib := fun a b c => by
    obtain ⟨x, rfl⟩ := PQ.rep a
    obtain ⟨y, rfl⟩ := PQ.rep b
    obtain ⟨z, rfl⟩ := PQ.rep c
    exact PQ.exa (conv_add x y z)
  right_distrib := fun a b c => by
    rw [pq_mul_comm, pq_mul_comm a, pq_mul_comm b]
    obtain ⟨x, rfl⟩ := PQ.rep a
    obtain ⟨y, rfl⟩ := PQ.rep b
    obtain ⟨z, rfl⟩ := PQ.rep c
    exact PQ.exa (conv_add z x y)
  zero_mul := fun a => by
    obtain ⟨x, rfl⟩ := PQ.rep a
    exact PQ.exa fun i => by rw [conv_con]; simp [con]
  mul_zero := fun a => by
    rw [pq_mul_comm]
    obtain ⟨x, rfl⟩ := PQ.rep a
    exact PQ.exa fun i => by rw [conv_con]; simp [con]
  pow_zero := fun a => rfl
  pow_succ := fun a n => rfl
  ofNat_succ := fun n => PQ.exa fun i => by
    rw [← con_add]
    rfl
  ofNat_eq_natCast := fun n => rfl
  nsmul_eq_natCast_mul := fun n a => rfl
  neg_add_cancel := fun a => by
    obtain ⟨x, rfl⟩ := PQ.rep a
    exact PQ.exa fun i => by simp only [con]; split <;> omega
  sub_eq_add_neg := fun a b => rfl
  neg_zsmul := fun n a => by
    obtain ⟨x, rfl⟩ := PQ.rep a
    exact PQ.exa fun i => by rw [conv_con, conv_con, Int.neg_mul]
  zsmul_natCast_eq_nsmul := fun n a => rfl
  intCast_ofNat := fun n => rfl
  intCast_neg := fun n => PQ.exa fun i => by unfold con; split <;> simp
  mul_comm := pq_mul_comm
example (a b c : PQ p) : (a + b) * c - a * c = c * b := by grind
end
/-! ### lists as series -/
section
variable {p : Int}
def cl (p : Int) (a : List Int) : PQ p := PQ.mk p fun i => a.getD i 0
theorem cl_eq {a b : List Int} : cl p a = cl p b ↔ ∀ i, a.getD i 0 % p = b.getD i 0 % p := ⟨PQ.eq, PQ.ext⟩
theorem cl_mul (a b : List Int) : cl p (mul p a b) = cl p a * cl p b := PQ.ext fun i => by
  show (mul p a b).getD i 0 % p = conv _ _ i % p
  rw [mul_getD, Int.emod_emod]
  rfl
theorem cl_add (a b : List Int) : cl p (add p a b) = cl p a + cl p b := PQ.ext fun i => by rw [add_getD, Int.emod_emod]
theorem cl_trim (a : List Int) : cl p (trim a) = cl p a := PQ.ext fun i => by rw [trim_getD]
theorem cl_nil : cl p [] = 0 := PQ.exa fun i => by simp [con]
theorem cl_one (v : Int) : cl p [v] = PQ.mk p (con v) := PQ.exa fun i => by cases i <;> simp [con]
theorem cl_1 : cl p [1] = 1 := cl_one 1
theorem cl_inj (h0 : 0 < p) {a b : List Int} (ha : Poly p a) (hb : Poly p b) (h : cl p a = cl p b) : a = b := poly_ext ha.2 hb.2 fun i => by
  have := cl_eq.mp h i
  rwa [emod_small (nums_getD h0 ha.1 i), emod_small (nums_getD h0 hb.1 i)] at this
theorem cl_coef (h0 : 0 < p) {a b : List Int} (ha : nums p a) (hb : nums p b) (h : cl p a = cl p b) (i : Nat) : a.getD i 0 = b.getD i 0 := by
  have := cl_eq.mp h i
  rwa [emod_small (nums_getD h0 ha i), emod_small (nums_getD h0 hb i)] at this
theorem cl_scaled (a : List Int) (v : Int) : cl p (a.map fun x => x * v % p) = cl p a * cl p [v] := by
  rw [pq_mul_comm, cl_one]
  refine PQ.ext fun i => ?_
  rw [conv_con]
  by_cases hi : i < a.length
  · simp [List.getD, hi, Int.mul_comm]
  · rw [getD_big _ i (by simpa using hi), getD_big a i (by omega)]
    simp
/-- the division, as an equation -/
theorem cl_dv {sc : Int} (hp : 0 < p) {a b : List Int} (ha : nums p a) (hb : b ≠ []) (hsc : sc * b.getD (b.length - 1) 0 % p = 1 % p) : cl p (dv p sc a b).1 * cl p b + cl p (dv p sc a b).2 = cl p a :=
  PQ.ext (dv_ok hp ha hb hsc).2.2.2.2.2
end
end IPL
end
section
set_option linter.all false
set_option maxRecDepth 8000
/-! Rem: rests by a polynomial. -/
namespace IPL
open IP
open PySem (PyData)
section
variable {p : Int} {m : Nat} {b : List Int}
/-- the rest of a by b, m inverse to b's last number -/
def rem (p : Int) (m : Nat) (b a : List Int) : List Int := trim (dv p m a b).2
/-- what holds of a divisor -/
structure Dvr (p : Int) (m : Nat) (b : List Int) : Prop where
  hp : isPrime p
  pol : Poly p b
  ne : b ≠ []
  inv : IsInv p (b.getD (b.length - 1) 0) m
theorem Dvr.pos (h : Dvr p m b) : 0 < p := by have := prime_pos h.hp; omega
theorem Dvr.sc (h : Dvr p m b) : (m : Int) * b.getD (b.length - 1) 0 % p = 1 % p := by
  have pp := prime_pos h.hp
  rw [Int.mul_comm, h.inv.2.2.1, Int.emod_eq_of_lt (by omega) (by omega)]
/-- multiples of b -/
def Dv (p : Int) (b : List Int) (z : PQ p) : Prop := ∃ u : List Int, nums p u ∧ z = cl p u * cl p b
theorem Dv.zero : Dv p b 0 := ⟨[], (fun x h => by cases h), by rw [cl_nil]; grind⟩
theorem Dv.add (h0 : 0 < p) {z w : PQ p} (h : Dv p b z) (h' : Dv p b w) : Dv p b (z + w) := by
  obtain ⟨u, hu, rfl⟩ := h
  obtain ⟨v, hv, rfl⟩ := h'
  exact ⟨IPL.add p u v, (add_poly h0 u v).1, by rw [cl_add]; grind⟩
theorem Dv.mul (h0 : 0 < p) {z : PQ p} (h : Dv p b z) (y : List Int) : Dv p b (z * cl p y) := by
  obtain ⟨u, hu, rfl⟩ := h
  exact ⟨IPL.mul p u y, (mul_poly h0 u y).1, by rw [cl_mul]; grind⟩
theorem cl_m1 (h0 : 0 < p) : cl p [p - 1] = -1 := by
  rw [cl_one]
  refine PQ.ext fun i => ?_
  unfold con
  by_cases hi : i = 0
  · subst hi
    exact emod_of ⟨1, by simp⟩
  · rw [if_neg hi, if_neg hi]
    rfl
theorem Dv.neg (h0 : 0 < p) {z : PQ p} (h : Dv p b z) : Dv p b (-z) := by
  have := h.mul h0 [p - 1]
  rw [cl_m1 h0] at this
  rw [show -z = z * -1 by grind]
  exact this
theorem Dv.of_mul (h0 : 0 < p) {u : List Int} (hu : nums p u) : Dv p b (cl p u * cl p b) := ⟨u, hu, rfl⟩
theorem rem_poly (h : Dvr p m b) {a : List Int} (ha : nums p a) : Poly p (rem p m b a) := ⟨trim_nums (dv_ok h.pos ha h.ne h.sc).2.1, trim_poly _⟩
theorem rem_len (h : Dvr p m b) {a : List Int} (ha : nums p a) : (rem p m b a).length < b.length := by
  have hk := dv_ok h.pos ha h.ne h.sc
  have hb := List.length_pos_iff.mpr h.ne
  have hz : (rem p m b a).length ≤ b.length - 1 := by
    rcases (rem_poly h ha).2 with e | e
    · rw [e]; simp
    · rcases Nat.lt_or_ge (b.length - 1) (rem p m b a).length with h1 | h1
      · exfalso
        apply e
        unfold rem
        rw [trim_getD]
        exact hk.2.2.2.2.1 _ (by unfold rem at h1; omega)
      · exact h1
  omega
theorem rem_dv (h : Dvr p m b) {a : List Int} (ha : nums p a) : Dv p b (cl p a - cl p (rem p m b a)) := by
  have hk := dv_ok h.pos ha h.ne h.sc
  have e := cl_dv h.pos ha h.ne h.sc
  exact ⟨_, hk.1, by rw [← e, rem, cl_trim]; grind⟩
theorem rem_uniq (h : Dvr p m b) {a r : List Int} (ha : nums p a) (hr : Poly p r) (hl : r.length < b.length) (hd : Dv p b (cl p a - cl p r)) : rem p m b a = r := by
  obtain ⟨u, hu, e⟩ := hd
  have hk := dv_ok h.pos ha h.ne h.sc
  have e1 := cl_dv h.pos ha h.ne h.sc
  have e2 : cl p (dv p m a b).1 * cl p b + cl p (dv p m a b).2 = cl p u * cl p b + cl p r := by
    rw [e1, ← e]
    grind
  have hu := div_uniq h.pos h.ne h.sc hk.1 hu hk.2.1 hr.1 hk.2.2.2.2.1 (fun i hi => getD_big r i (by omega)) (PQ.eq e2)
  exact (trim_ext hu.2).trans (trim_of_poly hr.2)
theorem rem_eq (h : Dvr p m b) {a c : List Int} (ha : nums p a) (hc : nums p c) (hd : Dv p b (cl p a - cl p c)) : rem p m b a = rem p m b c := by
  refine rem_uniq h ha (rem_poly h hc) (rem_len h hc) ?_
  have := hd.add h.pos (rem_dv h hc)
  rwa [show cl p a - cl p c + (cl p c - cl p (rem p m b c)) = cl p a - cl p (rem p m b c) by grind] at this
theorem rem_small (h : Dvr p m b) {a : List Int} (ha : Poly p a) (hl : a.length < b.length) : rem p m b a = a := rem_uniq h ha.1 ha hl (by
  rw [show cl p a - cl p a = 0 by grind]
  exact Dv.zero)
theorem rem_mul (h : Dvr p m b) {a c a' c' : List Int} (ha : nums p a) (hc : nums p c) (ha' : nums p a') (hc' : nums p c') (e1 : rem p m b a = rem p m b a') (e2 : rem p m b c = rem p m b c') : rem p m b (mul p a c) = rem p m b (mul p a' c') := by
  refine rem_eq h (mul_poly h.pos _ _).1 (mul_poly h.pos _ _).1 ?_
  have d1 := rem_dv h ha
  have d2 := rem_dv h ha'
  have d3 := rem_dv h hc
  have d4 := rem_dv h hc'
  rw [e1] at d1
  rw [e2] at d3
  have d5 : Dv p b (cl p a - cl p a') := by
    have := d1.add h.pos (d2.neg h.pos)
    rwa [show cl p a - cl p (rem p m b a') + -(cl p a' - cl p (rem p m b a')) = cl p a - cl p a' by grind] at this
  have d6 : Dv p b (cl p c - cl p c') := by
    have := d3.add h.pos (d4.neg h.pos)
    rwa [show cl p c - cl p (rem p m b c') + -(cl p c' - cl p (rem p m b c')) = cl p c - cl p c' by grind] at this
  have := (d5.mul h.pos c).add h.pos (d6.mul h.pos a')
  rwa [show (cl p a - cl p a') * cl p c + (cl p c - cl p c') * cl p a' = cl p (mul p a c) - cl p (mul p a' c') by rw [cl_mul, cl_mul]; grind] at this
theorem rem_rem (h : Dvr p m b) {a : List Int} (ha : nums p a) : rem p m b (rem p m b a) = rem p m b a := rem_small h (rem_poly h ha) (rem_len h ha)
/-- powers, by products one after another -/
def pw (p : Int) (a : List Int) : Nat → List Int
  | 0 => [1]
  | n + 1 => mul p (pw p a n) a
theorem pw_nums (hp : isPrime p) {a : List Int} : ∀ n, nums p (pw p a n)
  | 0 => fun x hx => by
    have pp := prime_pos hp
    rw [List.mem_singleton.mp hx]
    omega
  | n + 1 => (mul_poly (by have := prime_pos hp; omega) _ _).1
theorem pw_add (p : Int) (a : List Int) (k : Nat) : ∀ n, cl p (pw p a (k + n)) = cl p (pw p a k) * cl p (pw p a n)
  | 0 => by
    show cl p (pw p a k) = cl p (pw p a k) * cl p [1]
    rw [cl_1]
    grind
  | n + 1 => by
    show cl p (mul p (pw p a (k + n)) a) = cl p (pw p a k) * cl p (mul p (pw p a n) a)
    rw [cl_mul, cl_mul, pw_add p a k n]
    grind
theorem rem_pw_add (h : Dvr p m b) {a : List Int} (k n : Nat) : rem p m b (mul p (rem p m b (pw p a k)) (rem p m b (pw p a n))) = rem p m b (pw p a (k + n)) := by
  have n1 := pw_nums h.hp (a := a) k
  have n2 := pw_nums h.hp (a := a) n
  rw [rem_mul h (rem_poly h n1).1 (rem_poly h n2).1 n1 n2 (rem_rem h n1) (rem_rem h n2)]
  refine rem_eq h (mul_poly h.pos _ _).1 (pw_nums h.hp _) ?_
  rw [cl_mul, pw_add, show cl p (pw p a k) * cl p (pw p a n) - cl p (pw p a k) * cl p (pw p a n) = 0 by grind]
  exact Dv.zero
theorem pw_one (h : Dvr p m b) {a : List Int} (ha : nums p a) : rem p m b (pw p a 1) = rem p m b a := by
  refine rem_eq h (pw_nums h.hp 1) ha ?_
  show Dv p b (cl p (mul p [1] a) - cl p a)
  rw [cl_mul, cl_1, show 1 * cl p a - cl p a = 0 by grind]
  exact Dv.zero
/-- a power of a power -/
theorem rem_pw_pw (h : Dvr p m b) {a : List Int} (k : Nat) : ∀ n, rem p m b (pw p (rem p m b (pw p a k)) n) = rem p m b (pw p a (k * n))
  | 0 => rfl
  | n + 1 => by
    have n1 := pw_nums h.hp (a := a) k
    have n2 := pw_nums h.hp (a := a) (k * n)
    show rem p m b (mul p (pw p (rem p m b (pw p a k)) n) (rem p m b (pw p a k))) = _
    rw [rem_mul h (pw_nums h.hp n) (rem_poly h n1).1 (rem_poly h n2).1 (rem_poly h n1).1 ((rem_pw_pw h k n).trans (rem_rem h n2).symm) rfl, rem_pw_add h]
    rfl
end
end IPL
end
section
set_option linter.all false
set_option maxRecDepth 8000
/-! Reg: rows of registers, leaps. -/
namespace IPL
open IP
open PySem (PyData)
section
variable {p : Int} {ts : List Int}
/-- the number that a register puts behind a row -/
def nextN (p : Int) (ts row : List Int) : Int := ((List.range ts.length).map fun k => ts.getD k 0 * row.getD (row.length - 1 - k) 0).sum % p
def grow (p : Int) (ts : List Int) : Nat → List Int → List Int
  | 0, row => row
  | k + 1, row => grow p ts k (row ++ [nextN p ts row])
theorem grow_length (p : Int) (ts : List Int) : ∀ (k : Nat) (row : List Int), (grow p ts k row).length = row.length + k
  | 0, row => rfl
  | k + 1, row => by
    rw [grow, grow_length p ts k]
    simp
    omega
theorem nextN_num (h0 : 0 < p) (ts row : List Int) : 0 ≤ nextN p ts row ∧ nextN p ts row < p := ⟨Int.emod_nonneg _ (by omega), Int.emod_lt_of_pos _ h0⟩
theorem grow_nums (h0 : 0 < p) (ts : List Int) : ∀ (k : Nat) (row : List Int), nums p row → nums p (grow p ts k row)
  | 0, row, h => h
  | k + 1, row, h => grow_nums h0 ts k _ fun x hx => by
    rcases List.mem_append.mp hx with h' | h'
    · exact h x h'
    · rw [List.mem_singleton.mp h']
      exact nextN_num h0 ts row
theorem getD_app_l (a b : List Int) (i : Nat) (h : i < a.length) : (a ++ b).getD i 0 = a.getD i 0 := by simp [List.getD, List.getElem?_append, h]
theorem getD_app_r (a b : List Int) (i : Nat) (h : a.length ≤ i) : (a ++ b).getD i 0 = b.getD (i - a.length) 0 := by
  rw [List.getD, List.getElem?_append_right h]
  rfl
theorem grow_old (p : Int) (ts : List Int) : ∀ (k : Nat) (row : List Int) (i : Nat), i < row.length → (grow p ts k row).getD i 0 = row.getD i 0
  | 0, row, i, _ => rfl
  | k + 1, row, i, h => by
    rw [grow, grow_old p ts k _ i (by simp; omega), getD_app_l row _ i h]
/-- the endless row -/
def sq (p : Int) (ts st : List Int) (i : Nat) : Int := (grow p ts (i + 1) st).getD i 0
theorem grow_sq (p : Int) (ts : List Int) : ∀ (k : Nat) (row : List Int) (i : Nat), i < row.length + k → (grow p ts k row).getD i 0 = sq p ts row i := by
  have more : ∀ (k e : Nat) (row : List Int) (i : Nat), i < row.length + k → (grow p ts (k + e) row).getD i 0 = (grow p ts k row).getD i 0 := by
    intro k
    induction k with
    | zero => intro e row i h; rw [Nat.zero_add, grow_old p ts e row i (by omega)]; rfl
    | succ k ih =>
      intro e row i h
      rw [show k + 1 + e = (k + e) + 1 by omega, grow, grow]
      exact ih e _ i (by simp; omega)
  intro k row i h
  unfold sq
  rcases Nat.le_total k (i + 1) with h1 | h1
  · have := more k (i + 1 - k) row i h
    rw [show k + (i + 1 - k) = i + 1 by omega] at this
    exact this.symm
  · have := more (i + 1) (k - (i + 1)) row i (by omega)
    rw [show i + 1 + (k - (i + 1)) = k by omega] at this
    exact this
theorem sq_start (p : Int) (ts st : List Int) (i : Nat) (h : i < st.length) : sq p ts st i = st.getD i 0 := grow_old p ts _ st i h
theorem sq_num (h0 : 0 < p) {ts st : List Int} (h : nums p st) (i : Nat) : 0 ≤ sq p ts st i ∧ sq p ts st i < p := nums_getD h0 (grow_nums h0 ts _ st h) i
/-- the next number by the numbers ahead -/
theorem grow_next (p : Int) (ts : List Int) : ∀ (k : Nat) (row : List Int), (grow p ts (k + 1) row).getD (row.length + k) 0 = nextN p ts (grow p ts k row)
  | 0, row => by
    show (row ++ [nextN p ts row]).getD (row.length + 0) 0 = nextN p ts row
    rw [getD_app_r _ _ _ (by omega)]
    simp
  | k + 1, row => by
    have := grow_next p ts k (row ++ [nextN p ts row])
    rw [show (row ++ [nextN p ts row]).length + k = row.length + (k + 1) by simp; omega] at this
    exact this
theorem sq_next (p : Int) {ts st : List Int} (hl : st.length = ts.length) (i : Nat) : sq p ts st (ts.length + i) = sg (fun k => ts.getD k 0 * sq p ts st (ts.length + i - 1 - k)) ts.length % p := by
  have h1 := grow_next p ts i st
  rw [grow_sq p ts (i + 1) st (st.length + i) (by omega), hl] at h1
  rw [h1]
  unfold nextN
  rw [sum_sg]
  congr 1
  refine sg_congr fun k hk => ?_
  rw [grow_length, hl, grow_sq p ts i st _ (by omega)]
/-- rows that begin alike and go on alike -/
theorem sq_shift (p : Int) {ts st st' : List Int} (hl : st.length = ts.length) (hl' : st'.length = ts.length) (N : Nat) (h : ∀ i, i < ts.length → st'.getD i 0 = sq p ts st (N + i)) : ∀ i, sq p ts st' i = sq p ts st (N + i) := by
  intro i
  induction i using Nat.strongRecOn with
  | _ i ih =>
    by_cases hi : i < ts.length
    · rw [sq_start p ts st' i (by omega), h i hi]
    · obtain ⟨j, rfl⟩ : ∃ j, i = ts.length + j := ⟨i - ts.length, by omega⟩
      rw [sq_next p hl' j, show N + (ts.length + j) = ts.length + (N + j) by omega, sq_next p hl (N + j)]
      congr 1
      refine sg_congr fun k hk => ?_
      rw [ih (ts.length + j - 1 - k) (by omega), show N + (ts.length + j - 1 - k) = ts.length + (N + j) - 1 - k by omega]
/-! ### weights -/
def lam (s : Nat → Int) (g : List Int) (i : Nat) : Int := sg (fun j => g.getD j 0 * s (i + j)) g.length
theorem lam_pad (s : Nat → Int) (g : List Int) (i N : Nat) (h : g.length ≤ N) : lam s g i = sg (fun j => g.getD j 0 * s (i + j)) N := by
  have := sg_more (f := fun j => g.getD j 0 * s (i + j)) (n := g.length) (N - g.length) (fun j hj => by rw [getD_big g j hj, Int.zero_mul])
  rw [show g.length + (N - g.length) = N by omega] at this
  exact this.symm
theorem lam_congr (s : Nat → Int) {g h : List Int} (e : cl p g = cl p h) (i : Nat) : p ∣ lam s g i - lam s h i := by
  rw [lam_pad s g i (max g.length h.length) (by omega), lam_pad s h i (max g.length h.length) (by omega)]
  refine sg_dvd fun j hj => ?_
  have h1 : p ∣ g.getD j 0 - h.getD j 0 := Int.dvd_of_emod_eq_zero (Int.emod_eq_emod_iff_emod_sub_eq_zero.mp (cl_eq.mp e j))
  obtain ⟨u, hu⟩ := h1
  exact ⟨u * s (i + j), by grind⟩
theorem lam_mul (s : Nat → Int) (u f : List Int) (hf : ∀ i, p ∣ lam s f i) (i : Nat) : p ∣ lam s (mul p u f) i := by
  have e1 := lam_pad s (mul p u f) i (u.length + f.length) (mul_len p u f)
  have e2 : p ∣ sg (fun j => (mul p u f).getD j 0 * s (i + j)) (u.length + f.length) - sg (fun n => sg (fun j => u.getD j 0 * f.getD (n - j) 0 * s (i + j + (n - j))) (n + 1)) (u.length + f.length) := by
    refine sg_dvd fun n hn => ?_
    rw [mul_getD]
    have e3 : sg (fun j => u.getD j 0 * f.getD (n - j) 0 * s (i + j + (n - j))) (n + 1) = cv u f n * s (i + n) := by
      unfold cv
      rw [sg_mul_right]
      refine sg_congr fun j hj => ?_
      rw [show i + j + (n - j) = i + n by omega]
    rw [e3]
    have e4 := Int.mul_ediv_add_emod (cv u f n) p
    exact ⟨-(cv u f n / p) * s (i + n), by grind⟩
  have e5 := sg_tri (fun j l => u.getD j 0 * f.getD l 0 * s (i + j + l)) (u.length + f.length)
  have e6 : p ∣ sg (fun k => sg (fun l => u.getD k 0 * f.getD l 0 * s (i + k + l)) (u.length + f.length - k)) (u.length + f.length) := by
    have := sg_dvd (p := p) (f := fun k => sg (fun l => u.getD k 0 * f.getD l 0 * s (i + k + l)) (u.length + f.length - k)) (g := fun _ => 0) (n := u.length + f.length) (fun k hk => by
      rw [Int.sub_zero]
      by_cases hk2 : k < u.length
      · have e7 : sg (fun l => u.getD k 0 * f.getD l 0 * s (i + k + l)) (u.length + f.length - k) = u.getD k 0 * lam s f (i + k) := by
          rw [lam_pad s f (i + k) (u.length + f.length - k) (by omega), sg_mul_left]
          exact sg_congr fun l hl => by rw [Int.mul_assoc]
        rw [e7]
        exact Int.dvd_mul_of_dvd_right (hf (i + k))
      · rw [sg_zero (fun l hl => by rw [getD_big u k (by omega), Int.zero_mul, Int.zero_mul])]
        exact Int.dvd_zero p)
    rw [sg_zero (f := fun _ => (0 : Int)) (fun _ _ => rfl), Int.sub_zero] at this
    exact this
  rw [e1]
  rw [← e5] at e6
  have := Int.dvd_add e2 e6
  rwa [Int.sub_add_cancel] at this
theorem lam_add (s : Nat → Int) (g h : List Int) (i : Nat) : p ∣ lam s (add p g h) i - (lam s g i + lam s h i) := by
  rw [lam_pad s (add p g h) i (max g.length h.length) (add_len p g h), lam_pad s g i (max g.length h.length) (by omega), lam_pad s h i (max g.length h.length) (by omega), ← sg_add]
  refine sg_dvd fun j hj => ?_
  rw [add_getD]
  have e4 := Int.mul_ediv_add_emod (g.getD j 0 + h.getD j 0) p
  exact ⟨-((g.getD j 0 + h.getD j 0) / p) * s (i + j), by grind⟩
/-- x ** N -/
def xN (N : Nat) : List Int := List.replicate N 0 ++ [1]
theorem xN_getD (N i : Nat) : (xN N).getD i 0 = if i = N then 1 else 0 := by
  unfold xN
  rcases Nat.lt_trichotomy i N with h | h | h
  · rw [getD_app_l _ _ _ (by simpa using h), getD_zeros, if_neg (by omega)]
  · subst h
    rw [getD_app_r _ _ _ (by simp), if_pos rfl]
    simp
  · rw [getD_app_r _ _ _ (by simp; omega), if_neg (by omega)]
    rw [getD_big _ _ (by simp; omega)]
theorem cl_pw_x : ∀ N : Nat, cl p (pw p [0, 1] N) = cl p (xN N)
  | 0 => rfl
  | N + 1 => by
    show cl p (mul p (pw p [0, 1] N) [0, 1]) = _
    rw [cl_mul, cl_pw_x N, pq_mul_comm]
    refine PQ.exa fun i => ?_
    unfold conv
    rw [sg_front, xN_getD]
    have e : (fun j => ([0, 1] : List Int).getD (j + 1) 0 * (xN N).getD (i - (j + 1)) 0) = fun j => if j = 0 then (xN N).getD (i - 1) 0 else 0 := by
      funext j
      cases j with
      | zero => simp
      | succ j => simp
    rw [e, sg_one, xN_getD]
    by_cases h : i = N + 1
    · subst h
      simp
    · by_cases hi : 0 < i
      · rw [if_pos hi, if_neg (by omega), if_neg h]
        simp
      · rw [if_neg hi, if_neg h]
        simp
theorem lam_xN (s : Nat → Int) (N i : Nat) : lam s (xN N) i = s (i + N) := by
  have e : sg (fun j => (xN N).getD j 0 * s (i + j)) (N + 1) = sg (fun j => if j = N then s (i + N) else 0) (N + 1) := sg_congr fun j hj => by
    rw [xN_getD]
    by_cases h : j = N
    · subst h
      simp
    · rw [if_neg h, if_neg h, Int.zero_mul]
  rw [lam_pad s (xN N) i (N + 1) (by simp [xN]), e, sg_one, if_pos (by omega)]
/-- the polynomial of taps -/
def md (p : Int) (ts : List Int) : List Int := (1 :: ts.map fun t => -t % p).reverse
theorem md_len (p : Int) (ts : List Int) : (md p ts).length = ts.length + 1 := by simp [md]
theorem getD_rev (a : List Int) (i : Nat) (h : i < a.length) : a.reverse.getD i 0 = a.getD (a.length - 1 - i) 0 := by
  rw [List.getD, List.getElem?_reverse h]
  rfl
theorem md_top (p : Int) (ts : List Int) : (md p ts).getD ts.length 0 = 1 := by
  unfold md
  rw [getD_rev _ _ (by simp)]
  simp
theorem md_low (p : Int) (ts : List Int) (i : Nat) (h : i < ts.length) : (md p ts).getD i 0 = -ts.getD (ts.length - 1 - i) 0 % p := by
  unfold md
  rw [getD_rev _ _ (by simp; omega)]
  have : (1 :: ts.map fun t => -t % p).length - 1 - i = (ts.length - 1 - i) + 1 := by simp; omega
  rw [this, List.getD_cons_succ]
  have h2 : ts.length - 1 - i < ts.length := by omega
  simp [List.getD, h2]
theorem md_dvr (hp : isPrime p) (ts : List Int) : Dvr p 1 (md p ts) := by
  have pp := prime_pos hp
  have hl : (md p ts).length - 1 = ts.length := by rw [md_len]; omega
  refine ⟨hp, ⟨?_, .inr (by rw [hl, md_top]; decide)⟩, ?_, by rw [hl, md_top]; exact inv_one hp⟩
  · intro x hx
    have hx := List.mem_reverse.mp hx
    rcases List.mem_cons.mp hx with rfl | hx
    · omega
    · obtain ⟨t, _, rfl⟩ := List.mem_map.mp hx
      exact ⟨Int.emod_nonneg _ (by omega), Int.emod_lt_of_pos _ (by omega)⟩
  · intro h
    have := md_len p ts
    rw [h] at this
    simp at this
theorem lam_md {st : List Int} (hl : st.length = ts.length) (i : Nat) : p ∣ lam (sq p ts st) (md p ts) i := by
  unfold lam
  rw [md_len]
  show p ∣ sg (fun j => (md p ts).getD j 0 * sq p ts st (i + j)) ts.length + (md p ts).getD ts.length 0 * sq p ts st (i + ts.length)
  rw [md_top, Int.one_mul, Nat.add_comm i ts.length, sq_next p hl i]
  have h1 : p ∣ sg (fun j => (md p ts).getD j 0 * sq p ts st (i + j)) ts.length - sg (fun j => -(ts.getD (ts.length - 1 - j) 0 * sq p ts st (ts.length + i - 1 - (ts.length - 1 - j)))) ts.length := by
    refine sg_dvd fun j hj => ?_
    rw [md_low p ts j hj, show ts.length + i - 1 - (ts.length - 1 - j) = i + j by omega]
    have e4 := Int.mul_ediv_add_emod (-ts.getD (ts.length - 1 - j) 0) p
    exact ⟨-(-ts.getD (ts.length - 1 - j) 0 / p) * sq p ts st (i + j), by grind⟩
  have h2 : sg (fun j => -(ts.getD (ts.length - 1 - j) 0 * sq p ts st (ts.length + i - 1 - (ts.length - 1 - j)))) ts.length = sg (fun k => -(ts.getD k 0 * sq p ts st (ts.length + i - 1 - k))) ts.length :=
    sg_flip (fun k => -(ts.getD k 0 * sq p ts st (ts.length + i - 1 - k))) ts.length
  have h3 : sg (fun k => -(ts.getD k 0 * sq p ts st (ts.length + i - 1 - k))) ts.length = -1 * sg (fun k => ts.getD k 0 * sq p ts st (ts.length + i - 1 - k)) ts.length := by
    rw [sg_mul_left]
    exact sg_congr fun k _ => by omega
  rw [h2, h3] at h1
  generalize sg (fun k => ts.getD k 0 * sq p ts st (ts.length + i - 1 - k)) ts.length = T at *
  generalize sg (fun j => (md p ts).getD j 0 * sq p ts st (i + j)) ts.length = U at *
  have e4 := Int.mul_ediv_add_emod T p
  obtain ⟨w, hw⟩ := h1
  exact ⟨w - T / p, by grind⟩
/-- the weights of a leap -/
def wts (p : Int) (ts : List Int) (N : Nat) : List Int := rem p 1 (md p ts) (pw p [0, 1] N)
theorem leap {st : List Int} (hp : isPrime p) (hl : st.length = ts.length) (hs : nums p st) (N i : Nat) : lam (sq p ts st) (wts p ts N) i % p = sq p ts st (i + N) := by
  have h := md_dvr hp ts
  obtain ⟨u, hu, e⟩ := rem_dv h (pw_nums hp (a := [0, 1]) N)
  have e1 : cl p (xN N) = cl p (add p (mul p u (md p ts)) (wts p ts N)) := by
    rw [cl_add, cl_mul, ← e, ← cl_pw_x, wts]
    grind
  have d1 := lam_congr (sq p ts st) e1 i
  have d2 := lam_add (p := p) (sq p ts st) (mul p u (md p ts)) (wts p ts N) i
  have d3 := lam_mul (sq p ts st) u (md p ts) (fun j => lam_md hl j) i
  rw [lam_xN] at d1
  have hb := sq_num h.pos (ts := ts) hs (i + N)
  rw [← emod_small hb]
  apply emod_of
  generalize lam (sq p ts st) (wts p ts N) i = A at *
  generalize lam (sq p ts st) (mul p u (md p ts)) i = B at *
  generalize lam (sq p ts st) (add p (mul p u (md p ts)) (wts p ts N)) i = C at *
  obtain ⟨w1, h1⟩ := d1
  obtain ⟨w2, h2⟩ := d2
  obtain ⟨w3, h3⟩ := d3
  exact ⟨-w1 - w2 - w3, by grind⟩
theorem wts_len (hp : isPrime p) (ts : List Int) (N : Nat) : (wts p ts N).length ≤ ts.length := by
  have := rem_len (md_dvr hp ts) (pw_nums hp (a := [0, 1]) N)
  rw [md_len] at this
  unfold wts
  omega
theorem wts_nums (hp : isPrime p) (ts : List Int) (N : Nat) : nums p (wts p ts N) := (rem_poly (md_dvr hp ts) (pw_nums hp N)).1
/-- the numbers from N on -/
def sqs (p : Int) (ts st : List Int) (N c : Nat) : List Int := (List.range c).map fun i => sq p ts st (N + i)
theorem sqs_len (p : Int) (ts st : List Int) (N c : Nat) : (sqs p ts st N c).length = c := by simp [sqs]
theorem sqs_nums (h0 : 0 < p) {ts st : List Int} (hs : nums p st) (N c : Nat) : nums p (sqs p ts st N c) := by
  intro x hx
  obtain ⟨k, _, rfl⟩ := List.mem_map.mp hx
  exact sq_num h0 hs _
theorem sqs_getD (p : Int) (ts st : List Int) (N c i : Nat) (h : i < c) : (sqs p ts st N c).getD i 0 = sq p ts st (N + i) := by
  unfold sqs
  rw [getD_range, if_pos h]
theorem sqs_sqs (p : Int) {ts st : List Int} (hl : st.length = ts.length) (N M c : Nat) : sqs p ts (sqs p ts st N ts.length) M c = sqs p ts st (N + M) c := by
  have := sq_shift p (st' := sqs p ts st N ts.length) hl (sqs_len p ts st N ts.length) N (fun i hi => sqs_getD p ts st N ts.length i hi)
  unfold sqs at this ⊢
  apply List.map_congr_left
  intro i _
  rw [this (M + i), show N + (M + i) = N + M + i by omega]
/-- the first numbers, as the program makes them -/
def firstN (p : Int) (ts start : List Int) (c : Nat) : List Int := grow p ts (c - ts.length) (start.take c)
theorem firstN_sqs (p : Int) {ts st : List Int} (hl : st.length = ts.length) (c : Nat) : firstN p ts st c = sqs p ts st 0 c := by
  apply list_ext
  · rw [sqs_len]
    unfold firstN
    rw [grow_length, List.length_take]
    omega
  · intro i hi
    unfold firstN at hi ⊢
    rw [grow_length, List.length_take] at hi
    rw [sqs_getD p ts st 0 c i (by omega), Nat.zero_add]
    rcases Nat.le_total c ts.length with h | h
    · rw [show c - ts.length = 0 by omega]
      show (st.take c).getD i 0 = _
      rw [getD_take, if_pos (by omega), sq_start p ts st i (by omega)]
    · rw [List.take_of_length_le (by omega), grow_sq p ts _ st i (by omega)]
end
end IPL
end
section
set_option linter.all false
set_option maxRecDepth 8000
/-! Gal: the other wiring of a register. -/
namespace IPL
open IP
section
variable {p : Int} {ts st : List Int}
/-- the state behind a state of the other wiring -/
def gst (p : Int) (ts st : List Int) : List Int := (List.range ts.length).map fun i => (st.getD (i + 1) 0 + ts.getD i 0 * st.getD 0 0) % p
def gT (p : Int) (ts st : List Int) : Nat → List Int
  | 0 => st
  | n + 1 => gst p ts (gT p ts st n)
def gg (p : Int) (ts st : List Int) (n : Nat) : Int := (gT p ts st n).getD 0 0
theorem gst_len (p : Int) (ts st : List Int) : (gst p ts st).length = ts.length := by simp [gst]
theorem gT_len (p : Int) {ts st : List Int} (hl : st.length = ts.length) : ∀ n, (gT p ts st n).length = ts.length
  | 0 => hl
  | n + 1 => gst_len _ _ _
theorem gst_getD (p : Int) (ts st : List Int) (i : Nat) (h : i < ts.length) : (gst p ts st).getD i 0 = (st.getD (i + 1) 0 + ts.getD i 0 * st.getD 0 0) % p := by
  unfold gst
  rw [getD_range, if_pos h]
theorem gT_nums (h0 : 0 < p) (hs : nums p st) : ∀ n, nums p (gT p ts st n)
  | 0 => hs
  | n + 1 => nums_range h0 _ _
theorem gg_num (h0 : 0 < p) (hs : nums p st) (n : Nat) : 0 ≤ gg p ts st n ∧ gg p ts st n < p := nums_getD h0 (gT_nums h0 hs n) 0
theorem dvd_of_mod {a b : Int} (h : a % p = b % p) : p ∣ a - b := Int.dvd_of_emod_eq_zero (Int.emod_eq_emod_iff_emod_sub_eq_zero.mp h)
theorem gT_inv : ∀ (i n : Nat), i < ts.length → p ∣ (gT p ts st n).getD i 0 - (gg p ts st (n + i) - sg (fun b => ts.getD b 0 * gg p ts st (n + i - 1 - b)) i)
  | 0, n, h => by
    show p ∣ (gT p ts st n).getD 0 0 - ((gT p ts st n).getD 0 0 - 0)
    exact ⟨0, by omega⟩
  | i + 1, n, h => by
    have ih := gT_inv i (n + 1) (by omega)
    have e : (gT p ts st (n + 1)).getD i 0 = ((gT p ts st n).getD (i + 1) 0 + ts.getD i 0 * gg p ts st n) % p := gst_getD p ts _ i (by omega)
    have e2 : sg (fun b => ts.getD b 0 * gg p ts st (n + (i + 1) - 1 - b)) (i + 1) = sg (fun b => ts.getD b 0 * gg p ts st (n + 1 + i - 1 - b)) i + ts.getD i 0 * gg p ts st n := by
      show sg (fun b => ts.getD b 0 * gg p ts st (n + (i + 1) - 1 - b)) i + ts.getD i 0 * gg p ts st (n + (i + 1) - 1 - i) = _
      rw [show n + (i + 1) - 1 - i = n by omega, show n + (i + 1) - 1 = n + 1 + i - 1 by omega]
    rw [e2, show n + (i + 1) = n + 1 + i by omega]
    rw [e] at ih
    have d := Int.mul_ediv_add_emod ((gT p ts st n).getD (i + 1) 0 + ts.getD i 0 * gg p ts st n) p
    obtain ⟨w, hw⟩ := ih
    exact ⟨w + ((gT p ts st n).getD (i + 1) 0 + ts.getD i 0 * gg p ts st n) / p, by grind⟩
theorem gg_rec (h0 : 0 < p) (hs : nums p st) (hl : st.length = ts.length) (n : Nat) : gg p ts st (ts.length + n) = sg (fun k => ts.getD k 0 * gg p ts st (ts.length + n - 1 - k)) ts.length % p := by
  by_cases hL : ts.length = 0
  · have hT := gT_len p hl (ts.length + n)
    have : gg p ts st (ts.length + n) = 0 := by
      unfold gg
      rw [getD_big _ _ (by omega)]
    rw [this]
    generalize ts.length = m at hL
    subst hL
    simp [sg]
  · rw [← emod_small (gg_num h0 hs (ts.length + n))]
    have h := gT_inv (p := p) (ts := ts) (st := st) (ts.length - 1) (n + 1) (by omega)
    have e : (gT p ts st (n + 1)).getD (ts.length - 1) 0 = ((gT p ts st n).getD (ts.length - 1 + 1) 0 + ts.getD (ts.length - 1) 0 * gg p ts st n) % p := gst_getD p ts _ _ (by omega)
    rw [getD_big (gT p ts st n) _ (by rw [gT_len p hl]; omega), Int.zero_add] at e
    rw [e] at h
    obtain ⟨m, hm⟩ : ∃ m, ts.length = m + 1 := ⟨ts.length - 1, by omega⟩
    rw [hm] at h ⊢
    rw [show m + 1 - 1 = m by omega] at h
    apply emod_of
    have e2 : sg (fun k => ts.getD k 0 * gg p ts st (m + 1 + n - 1 - k)) (m + 1) = sg (fun b => ts.getD b 0 * gg p ts st (n + 1 + m - 1 - b)) m + ts.getD m 0 * gg p ts st n := by
      show sg (fun k => ts.getD k 0 * gg p ts st (m + 1 + n - 1 - k)) m + ts.getD m 0 * gg p ts st (m + 1 + n - 1 - m) = _
      rw [show m + 1 + n - 1 - m = n by omega, show m + 1 + n - 1 = n + 1 + m - 1 by omega]
    rw [e2, show m + 1 + n = n + 1 + m by omega]
    have d := Int.mul_ediv_add_emod (ts.getD m 0 * gg p ts st n) p
    obtain ⟨w, hw⟩ := h
    exact ⟨-w - (ts.getD m 0 * gg p ts st n) / p, by grind⟩
/-- a row that begins so and goes on so is the register's -/
theorem sq_of {f : Nat → Int} (hl : st.length = ts.length) (h1 : ∀ i, i < ts.length → f i = st.getD i 0) (h2 : ∀ n, f (ts.length + n) = sg (fun k => ts.getD k 0 * f (ts.length + n - 1 - k)) ts.length % p) : ∀ n, sq p ts st n = f n := by
  intro n
  induction n using Nat.strongRecOn with
  | _ n ih =>
    rcases Nat.lt_or_ge n ts.length with h | h
    · rw [sq_start p ts st n (by omega), h1 n h]
    · obtain ⟨m, rfl⟩ : ∃ m, n = ts.length + m := ⟨n - ts.length, by omega⟩
      rw [sq_next p hl, h2]
      congr 1
      exact sg_congr fun k hk => by rw [ih _ (by omega)]
/-- the first numbers of the row of a state -/
def rsOf (p : Int) (ts st : List Int) : List Int := (List.range ts.length).map (gg p ts st)
theorem rsOf_len (p : Int) (ts st : List Int) : (rsOf p ts st).length = ts.length := by simp [rsOf]
theorem rsOf_nums (h0 : 0 < p) (hs : nums p st) : nums p (rsOf p ts st) := fun x hx => by
  obtain ⟨k, _, rfl⟩ := List.mem_map.mp hx
  exact gg_num h0 hs k
theorem rsOf_getD (p : Int) (ts st : List Int) {i : Nat} (h : i < ts.length) : (rsOf p ts st).getD i 0 = gg p ts st i := by
  unfold rsOf
  rw [getD_range, if_pos h]
theorem gg_sq (h0 : 0 < p) (hs : nums p st) (hl : st.length = ts.length) (n : Nat) : sq p ts (rsOf p ts st) n = gg p ts st n :=
  sq_of (rsOf_len p ts st) (fun i hi => (rsOf_getD p ts st hi).symm) (gg_rec h0 hs hl) n
/-- the state whose row is a register's -/
def tO (p : Int) (ts st : List Int) : List Int := (List.range ts.length).map fun i => (st.getD i 0 - sg (fun b => ts.getD b 0 * st.getD (i - 1 - b) 0) i) % p
theorem tO_len (p : Int) (ts st : List Int) : (tO p ts st).length = ts.length := by simp [tO]
theorem tO_nums (h0 : 0 < p) (ts st : List Int) : nums p (tO p ts st) := nums_range h0 _ _
theorem tO_getD (p : Int) (ts st : List Int) {i : Nat} (h : i < ts.length) : (tO p ts st).getD i 0 = (st.getD i 0 - sg (fun b => ts.getD b 0 * st.getD (i - 1 - b) 0) i) % p := by
  unfold tO
  rw [getD_range, if_pos h]
/-- from the row's numbers from n on, back to the state behind n steps -/
theorem tO_gT (h0 : 0 < p) (hs : nums p st) (hl : st.length = ts.length) (n : Nat) {w : List Int} (hw : ∀ i, i < ts.length → w.getD i 0 = gg p ts st (n + i)) : tO p ts w = gT p ts st n := by
  refine list_ext (by rw [tO_len, gT_len p hl]) fun i hi => ?_
  rw [tO_len] at hi
  rw [tO_getD p ts w hi, ← emod_small (nums_getD h0 (gT_nums h0 hs n) i)]
  apply emod_of
  have h := gT_inv (p := p) (st := st) i n hi
  rw [hw i hi, sg_congr (g := fun b => ts.getD b 0 * gg p ts st (n + i - 1 - b)) fun b hb => by
    show ts.getD b 0 * w.getD (i - 1 - b) 0 = ts.getD b 0 * gg p ts st (n + i - 1 - b)
    rw [hw _ (by omega), show n + (i - 1 - b) = n + i - 1 - b by omega]]
  obtain ⟨u, hu⟩ := h
  exact ⟨-u, by grind⟩
theorem tO_rsOf (h0 : 0 < p) (hs : nums p st) (hl : st.length = ts.length) : tO p ts (rsOf p ts st) = st :=
  tO_gT h0 hs hl 0 fun i hi => by rw [rsOf_getD p ts st hi, Nat.zero_add]
theorem tO_sqs (h0 : 0 < p) (hs : nums p st) (hl : st.length = ts.length) (N : Nat) : tO p ts (sqs p ts (rsOf p ts st) N ts.length) = gT p ts st N :=
  tO_gT h0 hs hl N fun i hi => by rw [sqs_getD p ts _ N _ i hi, gg_sq h0 hs hl]
theorem rsOf_tO (h0 : 0 < p) (hs : nums p st) (hl : st.length = ts.length) : rsOf p ts (tO p ts st) = st := by
  refine list_ext (by rw [rsOf_len, hl]) fun i hi => ?_
  rw [rsOf_len] at hi
  rw [rsOf_getD p ts _ hi]
  induction i using Nat.strongRecOn with
  | _ i ih =>
    have h := gT_inv (p := p) (ts := ts) (st := tO p ts st) i 0 hi
    rw [Nat.zero_add] at h
    rw [show gT p ts (tO p ts st) 0 = tO p ts st from rfl, tO_getD p ts st hi] at h
    have e : sg (fun b => ts.getD b 0 * gg p ts (tO p ts st) (i - 1 - b)) i = sg (fun b => ts.getD b 0 * st.getD (i - 1 - b) 0) i := sg_congr fun b hb => by rw [ih _ (by omega) (by omega)]
    rw [e] at h
    rw [← emod_small (gg_num h0 (tO_nums h0 ts st) i), ← emod_small (nums_getD h0 hs i)]
    apply emod_of
    have d := Int.mul_ediv_add_emod (st.getD i 0 - sg (fun b => ts.getD b 0 * st.getD (i - 1 - b) 0) i) p
    obtain ⟨u, hu⟩ := h
    exact ⟨-u - (st.getD i 0 - sg (fun b => ts.getD b 0 * st.getD (i - 1 - b) 0) i) / p, by grind⟩
/-! steps as products -/
theorem cv_x (b : List Int) (i : Nat) : cv [0, 1] b i = if i = 0 then 0 else b.getD (i - 1) 0 := by
  unfold cv
  cases i with
  | zero => simp [sg]
  | succ i =>
    rw [if_neg (by omega), sg_front, sg_front]
    have : sg (fun j => ([0, 1] : List Int).getD (j + 1 + 1) 0 * b.getD (i + 1 - (j + 1 + 1)) 0) i = 0 := sg_zero fun j hj => by simp
    rw [this]
    simp
theorem cv_c (v : Int) (b : List Int) (i : Nat) : cv [v] b i = v * b.getD i 0 := by
  unfold cv
  rw [sg_front]
  have : sg (fun j => ([v] : List Int).getD (j + 1) 0 * b.getD (i - (j + 1)) 0) i = 0 := sg_zero fun j hj => by simp
  rw [this]
  simp
theorem gst_cl (hp : 0 < p) (hl : st.length = ts.length) : cl p (gst p ts st).reverse + cl p [st.getD 0 0] * cl p (md p ts) = cl p [0, 1] * cl p st.reverse := by
  rw [← cl_mul, ← cl_mul, ← cl_add]
  refine cl_eq.mpr fun i => ?_
  rw [add_getD, mul_getD, mul_getD, cv_x, cv_c, Int.emod_emod, Int.emod_emod]
  rcases Nat.lt_trichotomy i ts.length with h | h | h
  · rw [getD_rev _ i (by rw [gst_len]; exact h), gst_len, gst_getD p ts st _ (by omega), md_low p ts i h]
    have e : (if i = 0 then (0 : Int) else st.reverse.getD (i - 1) 0) = st.getD (ts.length - 1 - i + 1) 0 := by
      by_cases hi : i = 0
      · rw [if_pos hi, getD_big st _ (by omega)]
      · rw [if_neg hi, getD_rev _ _ (by omega), hl, show ts.length - 1 - (i - 1) = ts.length - 1 - i + 1 by omega]
    rw [e]
    apply emod_of
    generalize st.getD (ts.length - 1 - i + 1) 0 = A
    generalize ts.getD (ts.length - 1 - i) 0 = T
    generalize st.getD 0 0 = S
    have d1 := Int.mul_ediv_add_emod (A + T * S) p
    have d2 := Int.mul_ediv_add_emod (-T) p
    have d3 := Int.mul_ediv_add_emod (S * (-T % p)) p
    exact ⟨-((A + T * S) / p) - (S * (-T % p)) / p - S * (-T / p), by grind⟩
  · subst h
    rw [getD_big _ ts.length (by simp [gst_len]), md_top, Int.mul_one, Int.zero_add, Int.emod_emod]
    by_cases hi : ts.length = 0
    · rw [if_pos hi, getD_big st 0 (by omega)]
    · rw [if_neg hi, getD_rev _ _ (by omega), hl, show ts.length - 1 - (ts.length - 1) = 0 by omega]
  · rw [getD_big _ i (by simp [gst_len]; omega), getD_big (md p ts) i (by rw [md_len]; omega), if_neg (by omega), getD_big st.reverse (i - 1) (by simp; omega)]
    simp
theorem gT_cl (hp : isPrime p) (hs : nums p st) (hl : st.length = ts.length) : ∀ N : Nat, Dv p (md p ts) (cl p st.reverse * cl p (pw p [0, 1] N) - cl p (gT p ts st N).reverse)
  | 0 => by
    have h0 : 0 < p := by have := prime_pos hp; omega
    have : cl p st.reverse * cl p (pw p [0, 1] 0) - cl p (gT p ts st 0).reverse = 0 := by
      show cl p st.reverse * cl p [1] - cl p st.reverse = 0
      rw [cl_1]
      grind
    rw [this]
    exact Dv.zero
  | N + 1 => by
    have h0 : 0 < p := by have := prime_pos hp; omega
    have ih := gT_cl hp hs hl N
    have e := gst_cl h0 (ts := ts) (gT_len p hl N)
    have e2 : cl p (pw p [0, 1] (N + 1)) = cl p (pw p [0, 1] N) * cl p [0, 1] := by
      rw [pw_add p [0, 1] N 1]
      congr 1
      show cl p (mul p [0, 1] [1]) = _
      rw [cl_mul, cl_1]
      grind
    have d1 := ih.mul h0 [0, 1]
    have d2 : Dv p (md p ts) (cl p [(gT p ts st N).getD 0 0] * cl p (md p ts)) := Dv.of_mul h0 (fun x hx => by
      rw [List.mem_singleton.mp hx]
      exact nums_getD h0 (gT_nums h0 hs N) 0)
    have := d1.add h0 d2
    have e3 : (cl p st.reverse * cl p (pw p [0, 1] N) - cl p (gT p ts st N).reverse) * cl p [0, 1] + cl p [(gT p ts st N).getD 0 0] * cl p (md p ts) = cl p st.reverse * cl p (pw p [0, 1] (N + 1)) - cl p (gT p ts st (N + 1)).reverse := by
      rw [e2]
      show _ = cl p st.reverse * (cl p (pw p [0, 1] N) * cl p [0, 1]) - cl p (gst p ts (gT p ts st N)).reverse
      grind
    rw [e3] at this
    exact this
/-- so many numbers of a polynomial, zeros at the end -/
def pad (a : List Int) (n : Nat) : List Int := (a ++ List.replicate n 0).take n
theorem pad_len (a : List Int) (n : Nat) : (pad a n).length = n := by simp [pad]
theorem pad_getD (a : List Int) {n i : Nat} (h : i < n) : (pad a n).getD i 0 = a.getD i 0 := by
  unfold pad
  rw [getD_take, if_pos h]
  by_cases hi : i < a.length
  · rw [getD_app_l _ _ _ hi]
  · rw [getD_app_r _ _ _ (by omega), getD_zeros, getD_big _ _ (by omega)]
theorem pad_trim (a : List Int) : pad (trim a) a.length = a := list_ext (pad_len _ _) fun i hi => by
  rw [pad_len] at hi
  rw [pad_getD _ hi, trim_getD]
theorem pad_mul (p : Int) {ts st : List Int} (hl : st.length = ts.length) : pad (mul p st (trim (1 :: ts.map fun t => -t % p))) ts.length = tO p ts st := by
  refine list_ext (by rw [pad_len, tO_len]) fun i hi => ?_
  rw [pad_len] at hi
  rw [pad_getD _ hi, mul_getD, tO_getD p ts st hi, cv_comm, cv_front]
  have e0 : (trim (1 :: ts.map fun t => -t % p)).getD 0 0 = 1 := trim_getD _ 0
  rw [e0, Int.one_mul]
  apply emod_of
  have key : ∀ m, m ≤ i → p ∣ sg (fun k => (trim (1 :: ts.map fun t => -t % p)).getD (k + 1) 0 * st.getD (i - (k + 1)) 0) m + sg (fun b => ts.getD b 0 * st.getD (i - 1 - b) 0) m := by
    intro m
    induction m with
    | zero => intro _; exact ⟨0, by simp [sg]⟩
    | succ m ih =>
      intro h
      obtain ⟨w, hw⟩ := ih (by omega)
      have e1 : (trim (1 :: ts.map fun t => -t % p)).getD (m + 1) 0 = -ts.getD m 0 % p := by
        rw [trim_getD]
        have : m < ts.length := by omega
        simp [List.getD, this]
      have e2 : i - 1 - m = i - (m + 1) := by omega
      have d := Int.mul_ediv_add_emod (-ts.getD m 0) p
      simp only [sg, e1, e2]
      exact ⟨w - (-ts.getD m 0 / p) * st.getD (i - (m + 1)) 0, by grind⟩
  obtain ⟨w, hw⟩ := key i (Nat.le_refl i)
  exact ⟨w, by omega⟩
theorem other_rem (hp : isPrime p) (hs : nums p st) (hl : st.length = ts.length) (N : Nat) : rem p 1 (md p ts) (mul p (trim st.reverse) (wts p ts N)) = trim (gT p ts st N).reverse := by
  have h := md_dvr hp ts
  have hr : nums p st.reverse := fun x hx => hs x (List.mem_reverse.mp hx)
  have hg : nums p (gT p ts st N).reverse := fun x hx => gT_nums h.pos hs N x (List.mem_reverse.mp hx)
  refine rem_uniq h (mul_poly h.pos _ _).1 ⟨trim_nums hg, trim_poly _⟩ ?_ ?_
  · have := trim_le (gT p ts st N).reverse
    rw [List.length_reverse, gT_len p hl] at this
    rw [md_len]
    omega
  · rw [cl_mul, cl_trim, cl_trim]
    have d1 := gT_cl hp hs hl N
    have d2 := (rem_dv h (pw_nums hp (a := [0, 1]) N)).mul h.pos st.reverse
    have d3 := d1.add h.pos (d2.neg h.pos)
    have e : cl p st.reverse * cl p (pw p [0, 1] N) - cl p (gT p ts st N).reverse + -((cl p (pw p [0, 1] N) - cl p (rem p 1 (md p ts) (pw p [0, 1] N))) * cl p st.reverse) = cl p st.reverse * cl p (wts p ts N) - cl p (gT p ts st N).reverse := by
      unfold wts
      grind
    rw [e] at d3
    exact d3
end
end IPL
end
section
set_option linter.all false
set_option maxRecDepth 8000
/-! BM: shortest registers, number by number; plain mathematics. -/
namespace IPL
open IP
open PySem (PyData)
section
variable {p : Int}
theorem sg_mod {f g : Nat → Int} {n : Nat} (h : ∀ j, j < n → f j % p = g j % p) : sg f n % p = sg g n % p :=
  emod_of (sg_dvd fun j hj => Int.dvd_of_emod_eq_zero (Int.emod_eq_emod_iff_emod_sub_eq_zero.mp (h j hj)))
theorem sg_shift (f : Nat → Int) (m : Nat) : ∀ k, sg (fun j => if m ≤ j then f (j - m) else 0) k = sg f (k - m)
  | 0 => by simp [sg]
  | k + 1 => by
    show sg (fun j => if m ≤ j then f (j - m) else 0) k + (if m ≤ k then f (k - m) else 0) = _
    rw [sg_shift f m k]
    by_cases h : m ≤ k
    · rw [if_pos h, show k + 1 - m = (k - m) + 1 by omega]
      rfl
    · rw [if_neg h, Int.add_zero, show k + 1 - m = k - m by omega]
theorem sg_sub (f g : Nat → Int) : ∀ n, sg (fun j => f j - g j) n = sg f n - sg g n
  | 0 => rfl
  | n + 1 => by
    show sg (fun j => f j - g j) n + (f n - g n) = sg f n + f n - (sg g n + g n)
    rw [sg_sub f g n]
    omega
theorem cv_app (C s : List Int) (x : Int) {k : Nat} (h : k < s.length) : cv C (s ++ [x]) k = cv C s k :=
  sg_congr fun j hj => by rw [getD_app_l _ _ _ (by omega)]
theorem cv_prefix (C : List Int) {s t : List Int} {k : Nat} (h : ∀ j, j ≤ k → s.getD j 0 = t.getD j 0) : cv C s k = cv C t k :=
  sg_congr fun j hj => by rw [h (k - j) (by omega)]
/-- the number that a register puts behind a row -/
def exq (C s : List Int) : Int := ((List.range (C.length - 1)).map fun k => C.getD (k + 1) 0 * s.getD (s.length - 1 - k) 0).sum
def expd (p : Int) (s C : List Int) : Int := (-exq C s) % p
theorem sg_short {f : Nat → Int} {n m : Nat} (h : n ≤ m) (z : ∀ j, n ≤ j → f j = 0) : sg f m = sg f n := by
  have := sg_more (f := f) (n := n) (m - n) z
  rwa [show n + (m - n) = m by omega] at this
theorem cv_next (C s : List Int) (x : Int) (hl : C.length ≤ s.length + 1) (h1 : 1 ≤ C.length) : cv C (s ++ [x]) s.length = C.getD 0 0 * x + exq C s := by
  rw [cv_front, exq, sum_sg, getD_app_r _ _ _ (Nat.le_refl _), Nat.sub_self]
  congr 1
  rw [sg_short (n := C.length - 1) (by omega) (fun j hj => by rw [getD_big C (j + 1) (by omega), Int.zero_mul])]
  refine sg_congr fun j hj => ?_
  rw [getD_app_l _ _ _ (by omega), show s.length - (j + 1) = s.length - 1 - j by omega]
/-- a low that misses no more -/
def corr (p : Int) (C B : List Int) (m : Nat) (d : Int) : List Int := (List.range (max C.length (m + B.length))).map fun i => (C.getD i 0 - (if m ≤ i then d * B.getD (i - m) 0 else 0)) % p
theorem corr_len (p : Int) (C B : List Int) (m : Nat) (d : Int) : (corr p C B m d).length = max C.length (m + B.length) := by simp [corr]
theorem corr_getD (p : Int) (C B : List Int) (m : Nat) (d : Int) (i : Nat) : (corr p C B m d).getD i 0 = (C.getD i 0 - (if m ≤ i then d * B.getD (i - m) 0 else 0)) % p := by
  unfold corr
  rw [getD_range]
  split
  · rfl
  · rename_i h
    rw [getD_big C i (by omega)]
    split
    · rw [getD_big B (i - m) (by omega), Int.mul_zero]
      rfl
    · rfl
theorem corr_nums (h0 : 0 < p) (C B : List Int) (m : Nat) (d : Int) : nums p (corr p C B m d) := by
  intro x hx
  unfold corr at hx
  obtain ⟨i, _, rfl⟩ := List.mem_map.mp hx
  exact ⟨Int.emod_nonneg _ (by omega), Int.emod_lt_of_pos _ h0⟩
theorem cv_corr (p : Int) (C B s : List Int) (m : Nat) (d : Int) (k : Nat) : cv (corr p C B m d) s k % p = (cv C s k - (if m ≤ k then d * cv B s (k - m) else 0)) % p := by
  have e : (if m ≤ k then d * cv B s (k - m) else 0) = sg (fun j => if m ≤ j then d * B.getD (j - m) 0 * s.getD (k - m - (j - m)) 0 else 0) (k + 1) := by
    rw [sg_shift (fun i => d * B.getD i 0 * s.getD (k - m - i) 0) m (k + 1)]
    split
    · unfold cv
      rw [sg_mul_left, show k + 1 - m = k - m + 1 by omega]
      exact sg_congr fun j _ => by rw [Int.mul_assoc]
    · rw [show k + 1 - m = 0 by omega]
      rfl
  rw [e]
  unfold cv
  rw [← sg_sub]
  refine sg_mod fun j hj => ?_
  rw [corr_getD]
  have : C.getD j 0 * s.getD (k - j) 0 - (if m ≤ j then d * B.getD (j - m) 0 * s.getD (k - m - (j - m)) 0 else 0) = (C.getD j 0 - (if m ≤ j then d * B.getD (j - m) 0 else 0)) * s.getD (k - j) 0 := by
    split
    · rw [show k - m - (j - m) = k - j by omega, Int.sub_mul]
    · rw [Int.sub_zero, Int.sub_zero]
  rw [this, Int.mul_emod, Int.emod_emod, ← Int.mul_emod]
/-- a register makes a row -/
def Makes (p : Int) (C s : List Int) (l n : Nat) : Prop := C.length ≤ l + 1 ∧ C.getD 0 0 = 1 ∧ ∀ k, l ≤ k → k < n → p ∣ cv C s k
/-- two registers, one of which fails (J. Massey) -/
theorem massey {C C' s : List Int} {L l n : Nat} (h : Makes p C s L n) (h' : Makes p C' s l (n + 1)) (hf : ¬ p ∣ cv C s n) : n + 1 ≤ l + L := by
  refine Nat.le_of_not_lt fun hlt => hf ?_
  have ha := conv_assoc (fun j => C.getD j 0) (fun j => C'.getD j 0) (fun j => s.getD j 0) n
  have hb := conv_assoc (fun j => C'.getD j 0) (fun j => C.getD j 0) (fun j => s.getD j 0) n
  have hc : conv (conv (fun j => C.getD j 0) (fun j => C'.getD j 0)) (fun j => s.getD j 0) n = conv (conv (fun j => C'.getD j 0) (fun j => C.getD j 0)) (fun j => s.getD j 0) n := by
    unfold conv
    refine sg_congr fun j _ => ?_
    have := conv_comm (fun j => C.getD j 0) (fun j => C'.getD j 0) j
    unfold conv at this
    rw [this]
  rw [ha, hb] at hc
  have e1 : p ∣ conv (fun j => C.getD j 0) (conv (fun j => C'.getD j 0) (fun j => s.getD j 0)) n := by
    have := sg_dvd (p := p) (f := fun j => C.getD j 0 * conv (fun j => C'.getD j 0) (fun j => s.getD j 0) (n - j)) (g := fun _ => 0) (n := n + 1) (fun j hj => by
      rw [Int.sub_zero]
      by_cases hj2 : j ≤ L
      · exact Int.dvd_mul_of_dvd_right (h'.2.2 (n - j) (by omega) (by omega))
      · rw [getD_big C j (by have := h.1; omega), Int.zero_mul]
        exact Int.dvd_zero p)
    rw [sg_zero (fun _ _ => rfl), Int.sub_zero] at this
    exact this
  have e2 : p ∣ conv (fun j => C'.getD j 0) (conv (fun j => C.getD j 0) (fun j => s.getD j 0)) n - cv C s n := by
    have := sg_dvd (p := p) (f := fun j => C'.getD j 0 * conv (fun j => C.getD j 0) (fun j => s.getD j 0) (n - j)) (g := fun j => if j = 0 then cv C s n else 0) (n := n + 1) (fun j hj => by
      by_cases hj0 : j = 0
      · subst hj0
        rw [if_pos rfl, h'.2.1, Int.one_mul]
        show p ∣ cv C s (n - 0) - cv C s n
        rw [Nat.sub_zero, Int.sub_self]
        exact Int.dvd_zero p
      · rw [if_neg hj0, Int.sub_zero]
        by_cases hj2 : j ≤ l
        · exact Int.dvd_mul_of_dvd_right (h.2.2 (n - j) (by omega) (by omega))
        · rw [getD_big C' j (by have := h'.1; omega), Int.zero_mul]
          exact Int.dvd_zero p)
    rw [sg_one 0 (cv C s n) (n + 1), if_pos (by omega)] at this
    exact this
  rw [hc] at e1
  have := Int.dvd_sub e1 e2
  rwa [show conv (fun j => C'.getD j 0) (conv (fun j => C.getD j 0) (fun j => s.getD j 0)) n - (conv (fun j => C'.getD j 0) (conv (fun j => C.getD j 0) (fun j => s.getD j 0)) n - cv C s n) = cv C s n by omega] at this
/-! ### number by number -/
structure BM where
  s : List Int
  L : Nat
  C : List Int
  B : List Int
  m : Nat
def bm0 : BM := ⟨[], 0, [1], [1], 1⟩
open Classical in
noncomputable def ivf (p d : Int) : Nat := if h : ∃ m, IsInv p d m then h.choose else 0
theorem ivf_spec {d : Int} (hp : isPrime p) (hd : d % p ≠ 0) : IsInv p d (ivf p d) := by
  have h := inv_ex hp hd
  unfold ivf
  rw [dif_pos h]
  exact h.choose_spec
def miss (p : Int) (g : BM) (x : Int) : Int := (x - expd p g.s g.C) % p
noncomputable def bmS (p : Int) (g : BM) (x : Int) : BM :=
  if miss p g x = 0 then ⟨g.s ++ [x], g.L, g.C, g.B, g.m + 1⟩
  else if 2 * g.L ≤ g.s.length then ⟨g.s ++ [x], g.s.length + 1 - g.L, corr p g.C g.B g.m (miss p g x), g.C.map fun c => (ivf p (miss p g x) : Int) * c % p, 1⟩
  else ⟨g.s ++ [x], g.L, corr p g.C g.B g.m (miss p g x), g.B, g.m + 1⟩
structure BMi (p : Int) (g : BM) : Prop where
  ns : nums p g.s
  nC : nums p g.C
  nB : nums p g.B
  lC : g.C.length = g.L + 1
  lB : 1 ≤ g.B.length
  m1 : 1 ≤ g.m
  sz : g.L + g.B.length + g.m = g.s.length + 2
  le : g.L ≤ g.s.length
  c0 : g.C.getD 0 0 = 1
  mak : ∀ k, g.L ≤ k → k < g.s.length → p ∣ cv g.C g.s k
  old : ∀ k, g.B.length - 1 ≤ k → k + g.m < g.s.length → p ∣ cv g.B g.s k
  one : g.m ≤ g.s.length → cv g.B g.s (g.s.length - g.m) % p = 1
  least : ∀ (C : List Int) (l : Nat), Makes p C g.s l g.s.length → g.L ≤ l
theorem bmi0 (hp : isPrime p) : BMi p bm0 where
  ns := fun x h => by cases h
  nC := fun x h => by
    have := prime_pos hp
    have e : x = 1 := by simpa [bm0] using h
    omega
  nB := fun x h => by
    have := prime_pos hp
    have e : x = 1 := by simpa [bm0] using h
    omega
  lC := rfl
  lB := by decide
  m1 := by decide
  sz := rfl
  le := by decide
  c0 := rfl
  mak := fun k _ h => by simp [bm0] at h
  old := fun k _ h => by simp [bm0] at h
  one := fun h => by simp [bm0] at h
  least := fun _ _ _ => Nat.zero_le _
theorem mod_small_dvd {x : Int} (h : x % p = 0) : p ∣ x := Int.dvd_of_emod_eq_zero h
theorem miss_cv {g : BM} (h : BMi p g) (x : Int) : cv g.C (g.s ++ [x]) g.s.length % p = miss p g x := by
  rw [cv_next _ _ _ (by rw [h.lC]; have := h.le; omega) (by rw [h.lC]; omega), h.c0, Int.one_mul]
  unfold miss expd
  rw [Int.sub_emod x, Int.emod_emod, ← Int.sub_emod, Int.sub_neg]
theorem miss_num (h0 : 0 < p) (g : BM) (x : Int) : 0 ≤ miss p g x ∧ miss p g x < p := ⟨Int.emod_nonneg _ (by omega), Int.emod_lt_of_pos _ h0⟩
theorem len_snoc (s : List Int) (x : Int) : (s ++ [x]).length = s.length + 1 := by simp
theorem nums_snoc {s : List Int} {x : Int} (h : nums p s) (hx : 0 ≤ x ∧ x < p) : nums p (s ++ [x]) := by
  intro y hy
  rcases List.mem_append.mp hy with hy | hy
  · exact h y hy
  · have : y = x := by simpa using hy
    rw [this]
    exact hx
theorem makes_pre {C s : List Int} {x : Int} {l n : Nat} (hn : n ≤ s.length) (h : Makes p C (s ++ [x]) l n) : Makes p C s l n :=
  ⟨h.1, h.2.1, fun k h1 h2 => by rw [← cv_app C s x (by omega)]; exact h.2.2 k h1 h2⟩
theorem bmi_step (hp : isPrime p) {g : BM} (h : BMi p g) {x : Int} (hx : 0 ≤ x ∧ x < p) : BMi p (bmS p g x) := by
  have pp := prime_pos hp
  have hc := miss_cv h x
  have hle := h.le
  have hsz := h.sz
  have hlC := h.lC
  have hlB := h.lB
  have hm1 := h.m1
  have old' : ∀ k, g.B.length - 1 ≤ k → k + (g.m + 1) < (g.s ++ [x]).length → p ∣ cv g.B (g.s ++ [x]) k := fun k h1 h2 => by
    rw [len_snoc] at h2
    rw [cv_app _ _ _ (by omega)]
    exact h.old k h1 (by omega)
  have one' : g.m + 1 ≤ (g.s ++ [x]).length → cv g.B (g.s ++ [x]) ((g.s ++ [x]).length - (g.m + 1)) % p = 1 := fun h1 => by
    rw [len_snoc] at h1 ⊢
    rw [cv_app _ _ _ (by omega), show g.s.length + 1 - (g.m + 1) = g.s.length - g.m by omega]
    exact h.one (by omega)
  unfold bmS
  split
  · rename_i h0
    rw [h0] at hc
    exact ⟨nums_snoc h.ns hx, h.nC, h.nB, h.lC, h.lB, by show 1 ≤ g.m + 1; omega, by show g.L + g.B.length + (g.m + 1) = (g.s ++ [x]).length + 2; rw [len_snoc]; omega, by show g.L ≤ (g.s ++ [x]).length; rw [len_snoc]; omega, h.c0,
      fun k h1 h2 => by
        have h2' : k < (g.s ++ [x]).length := h2
        rw [len_snoc] at h2'
        show p ∣ cv g.C (g.s ++ [x]) k
        by_cases hk : k < g.s.length
        · rw [cv_app _ _ _ hk]
          exact h.mak k h1 hk
        · rw [show k = g.s.length by omega]
          exact mod_small_dvd hc, old', one', fun C l hm => by
        have hm' : Makes p C (g.s ++ [x]) l (g.s ++ [x]).length := hm
        rw [len_snoc] at hm'
        exact h.least C l (makes_pre (Nat.le_refl _) ⟨hm'.1, hm'.2.1, fun k a b => hm'.2.2 k a (by omega)⟩)⟩
  · rename_i h0
    have hd := miss_num (p := p) (by omega) g x
    have nd : ¬ p ∣ cv g.C (g.s ++ [x]) g.s.length := fun z => h0 (by rw [← hc]; exact Int.emod_eq_zero_of_dvd z)
    have corr0 : (corr p g.C g.B g.m (miss p g x)).getD 0 0 = 1 := by
      rw [corr_getD, if_neg (by omega), Int.sub_zero, h.c0]
      exact emod_small ⟨by omega, by omega⟩
    have mk' : ∀ k, max g.L (g.s.length + 1 - g.L) ≤ k → k < g.s.length + 1 → p ∣ cv (corr p g.C g.B g.m (miss p g x)) (g.s ++ [x]) k := fun k h1 h2 => by
      apply mod_small_dvd
      rw [cv_corr]
      by_cases hk : k < g.s.length
      · rw [cv_app _ _ _ hk]
        apply Int.emod_eq_zero_of_dvd
        refine Int.dvd_sub (h.mak k (by omega) hk) ?_
        split
        · rw [cv_app _ _ _ (by omega)]
          exact Int.dvd_mul_of_dvd_right (h.old (k - g.m) (by omega) (by omega))
        · exact Int.dvd_zero p
      · obtain rfl : k = g.s.length := by omega
        rw [if_pos (by omega), cv_app g.B _ _ (by omega), Int.sub_emod, hc, Int.mul_emod, h.one (by omega), Int.mul_one, Int.emod_emod, emod_small hd, Int.sub_self]
        rfl
    have kl : ∀ (C : List Int) (l : Nat), Makes p C (g.s ++ [x]) l (g.s.length + 1) → g.L ≤ l ∧ g.s.length + 1 ≤ l + g.L := fun C l hm =>
      ⟨h.least C l (makes_pre (Nat.le_refl _) ⟨hm.1, hm.2.1, fun k a b => hm.2.2 k a (by omega)⟩), massey (C := g.C) ⟨by omega, h.c0, fun k a b => by rw [cv_app _ _ _ b]; exact h.mak k a b⟩ hm nd⟩
    split
    · rename_i hj
      have hi := ivf_spec hp (d := miss p g x) (by rw [emod_small hd]; exact h0)
      have hB : ∀ k, cv (g.C.map fun c => (ivf p (miss p g x) : Int) * c % p) (g.s ++ [x]) k % p = (ivf p (miss p g x) : Int) * cv g.C (g.s ++ [x]) k % p := fun k => by
        unfold cv
        rw [sg_mul_left]
        refine sg_mod fun j _ => ?_
        have eg : (g.C.map fun c => (ivf p (miss p g x) : Int) * c % p).getD j 0 = (ivf p (miss p g x) : Int) * g.C.getD j 0 % p := by
          by_cases hj : j < g.C.length
          · simp [List.getD, hj]
          · rw [getD_big _ _ (by rw [List.length_map]; omega), getD_big g.C j (by omega), Int.mul_zero]
            rfl
        rw [eg, Int.mul_emod, Int.emod_emod, ← Int.mul_emod, Int.mul_assoc]
      refine ⟨nums_snoc h.ns hx, corr_nums (by omega) _ _ _ _, fun y hy => ?_, ?_, by simp [hlC], Nat.le_refl _, ?_, ?_, corr0, fun k h1 h2 => ?_, fun k h1 h2 => ?_, fun _ => ?_, fun C l hm => ?_⟩
      · obtain ⟨c, _, rfl⟩ := List.mem_map.mp hy
        exact ⟨Int.emod_nonneg _ (by omega), Int.emod_lt_of_pos _ (by omega)⟩
      · show (corr p g.C g.B g.m (miss p g x)).length = g.s.length + 1 - g.L + 1
        rw [corr_len]
        omega
      · show g.s.length + 1 - g.L + (g.C.map fun c => (ivf p (miss p g x) : Int) * c % p).length + 1 = (g.s ++ [x]).length + 2
        rw [List.length_map, len_snoc]
        omega
      · show g.s.length + 1 - g.L ≤ (g.s ++ [x]).length
        rw [len_snoc]
        omega
      · have h2' : k < (g.s ++ [x]).length := h2
        have h1' : g.s.length + 1 - g.L ≤ k := h1
        rw [len_snoc] at h2'
        exact mk' k (by omega) h2'
      · have h2' : k + 1 < (g.s ++ [x]).length := h2
        have h1' : (g.C.map fun c => (ivf p (miss p g x) : Int) * c % p).length - 1 ≤ k := h1
        rw [len_snoc] at h2'
        rw [List.length_map, hlC] at h1'
        apply mod_small_dvd
        show cv (g.C.map fun c => (ivf p (miss p g x) : Int) * c % p) (g.s ++ [x]) k % p = 0
        rw [hB, cv_app _ _ _ (by omega)]
        exact Int.emod_eq_zero_of_dvd (Int.dvd_mul_of_dvd_right (h.mak k (by omega) (by omega)))
      · show cv (g.C.map fun c => (ivf p (miss p g x) : Int) * c % p) (g.s ++ [x]) ((g.s ++ [x]).length - 1) % p = 1
        rw [len_snoc, Nat.add_sub_cancel, hB, Int.mul_emod, hc, Int.mul_emod, Int.emod_emod, ← Int.mul_emod, Int.mul_comm]
        exact hi.2.2.1
      · have hm' : Makes p C (g.s ++ [x]) l (g.s ++ [x]).length := hm
        rw [len_snoc] at hm'
        have := kl C l hm'
        show g.s.length + 1 - g.L ≤ l
        omega
    · rename_i hj
      refine ⟨nums_snoc h.ns hx, corr_nums (by omega) _ _ _ _, h.nB, ?_, hlB, by show 1 ≤ g.m + 1; omega, ?_, ?_, corr0, fun k h1 h2 => ?_, old', one', fun C l hm => ?_⟩
      · show (corr p g.C g.B g.m (miss p g x)).length = g.L + 1
        rw [corr_len]
        omega
      · show g.L + g.B.length + (g.m + 1) = (g.s ++ [x]).length + 2
        rw [len_snoc]
        omega
      · show g.L ≤ (g.s ++ [x]).length
        rw [len_snoc]
        omega
      · have h2' : k < (g.s ++ [x]).length := h2
        have h1' : g.L ≤ k := h1
        rw [len_snoc] at h2'
        exact mk' k (by omega) h2'
      · have hm' : Makes p C (g.s ++ [x]) l (g.s ++ [x]).length := hm
        rw [len_snoc] at hm'
        exact (kl C l hm').1
end
end IPL
end
section
set_option linter.all false
set_option maxRecDepth 8000
/-! BM2: the register found, beyond the row; weights. -/
namespace IPL
open IP
open PySem (PyData)
section
variable {p : Int}
noncomputable def bmR (p : Int) (row : List Int) : BM := row.foldl (bmS p) bm0
theorem bmS_s (p : Int) (g : BM) (x : Int) : (bmS p g x).s = g.s ++ [x] := by
  unfold bmS
  split
  · rfl
  · split <;> rfl
theorem bm_fold (p : Int) : ∀ (row : List Int) (g : BM), (row.foldl (bmS p) g).s = g.s ++ row
  | [], g => by simp
  | x :: row, g => by
    rw [List.foldl_cons, bm_fold p row, bmS_s, List.append_assoc]
    rfl
theorem bmR_s (p : Int) (row : List Int) : (bmR p row).s = row := by
  unfold bmR
  rw [bm_fold]
  rfl
theorem bmi_fold (hp : isPrime p) : ∀ (row : List Int) (g : BM), BMi p g → nums p row → BMi p (row.foldl (bmS p) g)
  | [], g, h, _ => h
  | x :: row, g, h, hr => bmi_fold hp row _ (bmi_step hp h (hr x (by simp))) fun y hy => hr y (List.mem_cons_of_mem _ hy)
theorem bmi (hp : isPrime p) {row : List Int} (h : nums p row) : BMi p (bmR p row) := bmi_fold hp row bm0 (bmi0 hp) h
/-- 1 less the terms of taps -/
def lowL (p : Int) (ts : List Int) : List Int := 1 :: ts.map fun t => -t % p
def tapsC (p : Int) (C : List Int) : List Int := (C.drop 1).map fun c => -c % p
theorem lowL_len (p : Int) (ts : List Int) : (lowL p ts).length = ts.length + 1 := by simp [lowL]
theorem tapsC_len (p : Int) (C : List Int) : (tapsC p C).length = C.length - 1 := by simp [tapsC]
theorem tapsC_nums (h0 : 0 < p) (C : List Int) : nums p (tapsC p C) := by
  intro x hx
  obtain ⟨c, _, rfl⟩ := List.mem_map.mp hx
  exact ⟨Int.emod_nonneg _ (by omega), Int.emod_lt_of_pos _ h0⟩
theorem lowL_getD (p : Int) (ts : List Int) (k : Nat) : (lowL p ts).getD (k + 1) 0 = -ts.getD k 0 % p := by
  show (ts.map fun t => -t % p).getD k 0 = _
  by_cases h : k < ts.length
  · simp [List.getD, h]
  · rw [getD_big _ _ (by rw [List.length_map]; omega), getD_big ts k (by omega)]
    rfl
theorem tapsC_getD (p : Int) (C : List Int) (k : Nat) : (tapsC p C).getD k 0 = -C.getD (k + 1) 0 % p := by
  unfold tapsC
  by_cases h : k < C.length - 1
  · rw [List.getD, List.getElem?_map, List.getElem?_drop, List.getElem?_eq_getElem (by omega)]
    simp [List.getD, show 1 + k = k + 1 by omega, show k + 1 < C.length by omega]
  · rw [getD_big _ _ (by simp; omega), getD_big C (k + 1) (by omega)]
    rfl
/-- what a low misses at an index, by its taps -/
theorem conv_taps (C : List Int) (f : Nat → Int) (k : Nat) (hk : C.length - 1 ≤ k) (h0 : C.getD 0 0 = 1) : conv (fun j => C.getD j 0) f k % p = (f k - sg (fun j => (tapsC p C).getD j 0 * f (k - 1 - j)) (C.length - 1)) % p := by
  have e : conv (fun j => C.getD j 0) f k = f k + sg (fun j => C.getD (j + 1) 0 * f (k - 1 - j)) (C.length - 1) := by
    unfold conv
    rw [sg_front]
    show C.getD 0 0 * f k + sg (fun j => C.getD (j + 1) 0 * f (k - (j + 1))) k = _
    rw [h0, Int.one_mul]
    congr 1
    rw [sg_short (n := C.length - 1) hk (fun j hj => by rw [getD_big C (j + 1) (by omega), Int.zero_mul])]
    exact sg_congr fun j hj => by rw [show k - (j + 1) = k - 1 - j by omega]
  rw [e]
  apply emod_of
  have := sg_dvd (p := p) (f := fun j => C.getD (j + 1) 0 * f (k - 1 - j)) (g := fun j => -((tapsC p C).getD j 0 * f (k - 1 - j))) (n := C.length - 1) (fun j hj => by
    rw [tapsC_getD]
    have hd : p ∣ C.getD (j + 1) 0 - -(-C.getD (j + 1) 0 % p) := by
      have := Int.emod_add_mul_ediv (-C.getD (j + 1) 0) p
      exact ⟨-(-C.getD (j + 1) 0 / p), by rw [Int.mul_neg]; omega⟩
    obtain ⟨u, hu⟩ := hd
    exact ⟨u * f (k - 1 - j), by rw [← Int.mul_assoc, ← hu]; grind⟩)
  have en : sg (fun j => -((tapsC p C).getD j 0 * f (k - 1 - j))) (C.length - 1) = -sg (fun j => (tapsC p C).getD j 0 * f (k - 1 - j)) (C.length - 1) := by
    have := sg_mul_left (fun j => (tapsC p C).getD j 0 * f (k - 1 - j)) (-1) (C.length - 1)
    rw [show -sg (fun j => (tapsC p C).getD j 0 * f (k - 1 - j)) (C.length - 1) = -1 * sg (fun j => (tapsC p C).getD j 0 * f (k - 1 - j)) (C.length - 1) by omega, this]
    exact sg_congr fun j _ => by omega
  rw [en] at this
  rw [show f k + sg (fun j => C.getD (j + 1) 0 * f (k - 1 - j)) (C.length - 1) - (f k - sg (fun j => (tapsC p C).getD j 0 * f (k - 1 - j)) (C.length - 1)) = sg (fun j => C.getD (j + 1) 0 * f (k - 1 - j)) (C.length - 1) - -sg (fun j => (tapsC p C).getD j 0 * f (k - 1 - j)) (C.length - 1) by omega]
  exact this
theorem tapsC_lowL (hp : isPrime p) {ts : List Int} (h : nums p ts) : tapsC p (lowL p ts) = ts := by
  have pp := prime_pos hp
  apply list_ext
  · rw [tapsC_len, lowL_len]
    omega
  · intro i hi
    rw [tapsC_getD, lowL_getD]
    have hb := nums_getD (by omega) h i
    have e : (-(-ts.getD i 0 % p)) % p = ts.getD i 0 % p := by
      have := Int.emod_add_mul_ediv (-ts.getD i 0) p
      exact emod_of ⟨-ts.getD i 0 / p, by omega⟩
    rw [e]
    exact emod_small hb
/-- a register's own row: its low misses nothing -/
theorem low_sq (hp : isPrime p) {ts st : List Int} (ht : nums p ts) (hl : st.length = ts.length) (k : Nat) (hk : ts.length ≤ k) : p ∣ conv (fun j => (lowL p ts).getD j 0) (sq p ts st) k := by
  apply Int.dvd_of_emod_eq_zero
  rw [conv_taps (lowL p ts) (sq p ts st) k (by rw [lowL_len]; omega) rfl, tapsC_lowL hp ht, lowL_len]
  have e := sq_next p hl (k - ts.length)
  rw [show ts.length + (k - ts.length) = k by omega] at e
  rw [show ts.length + 1 - 1 = ts.length by omega, Int.sub_emod, e, Int.emod_emod, ← Int.sub_emod, Int.sub_self]
  rfl
/-- a register that makes enough of a register's row goes on as it does -/
theorem goes_on (hp : isPrime p) {ts st C : List Int} (ht : nums p ts) (hl : st.length = ts.length) {L n : Nat} (hC : C.length ≤ L + 1) (hL : L ≤ ts.length) (hn : 2 * ts.length ≤ n) (h : ∀ k, L ≤ k → k < n → p ∣ conv (fun j => C.getD j 0) (sq p ts st) k) : ∀ k, L ≤ k → p ∣ conv (fun j => C.getD j 0) (sq p ts st) k := by
  have key : ∀ m k, k < m → L ≤ k → p ∣ conv (fun j => C.getD j 0) (sq p ts st) k := by
    intro m
    induction m with
    | zero => intro k h; omega
    | succ m ih =>
      intro k hk hLk
      by_cases hkn : k < n
      · exact h k hLk hkn
      · -- the low of ts times E is C times (the low times S)
        have ha := conv_assoc (fun j => (lowL p ts).getD j 0) (fun j => C.getD j 0) (sq p ts st) k
        have hb := conv_assoc (fun j => C.getD j 0) (fun j => (lowL p ts).getD j 0) (sq p ts st) k
        have hc : conv (conv (fun j => (lowL p ts).getD j 0) (fun j => C.getD j 0)) (sq p ts st) k = conv (conv (fun j => C.getD j 0) (fun j => (lowL p ts).getD j 0)) (sq p ts st) k := by
          unfold conv
          refine sg_congr fun j _ => ?_
          have := conv_comm (fun j => (lowL p ts).getD j 0) (fun j => C.getD j 0) j
          unfold conv at this
          rw [this]
        rw [ha, hb] at hc
        have e1 : p ∣ conv (fun j => C.getD j 0) (conv (fun j => (lowL p ts).getD j 0) (sq p ts st)) k := by
          have := sg_dvd (p := p) (f := fun j => C.getD j 0 * conv (fun j => (lowL p ts).getD j 0) (sq p ts st) (k - j)) (g := fun _ => 0) (n := k + 1) (fun j hj => by
            rw [Int.sub_zero]
            by_cases hj2 : j ≤ L
            · exact Int.dvd_mul_of_dvd_right (low_sq hp ht hl (k - j) (by omega))
            · rw [getD_big C j (by omega), Int.zero_mul]
              exact Int.dvd_zero p)
          rw [sg_zero (fun _ _ => rfl), Int.sub_zero] at this
          exact this
        have e2 : p ∣ conv (fun j => (lowL p ts).getD j 0) (conv (fun j => C.getD j 0) (sq p ts st)) k - conv (fun j => C.getD j 0) (sq p ts st) k := by
          have := sg_dvd (p := p) (f := fun j => (lowL p ts).getD j 0 * conv (fun j => C.getD j 0) (sq p ts st) (k - j)) (g := fun j => if j = 0 then conv (fun j => C.getD j 0) (sq p ts st) k else 0) (n := k + 1) (fun j hj => by
            by_cases hj0 : j = 0
            · subst hj0
              rw [if_pos rfl]
              show p ∣ 1 * conv (fun j => C.getD j 0) (sq p ts st) (k - 0) - conv (fun j => C.getD j 0) (sq p ts st) k
              rw [Nat.sub_zero, Int.one_mul, Int.sub_self]
              exact Int.dvd_zero p
            · rw [if_neg hj0, Int.sub_zero]
              by_cases hj2 : j ≤ ts.length
              · exact Int.dvd_mul_of_dvd_right (ih (k - j) (by omega) (by omega))
              · rw [getD_big (lowL p ts) j (by rw [lowL_len]; omega), Int.zero_mul]
                exact Int.dvd_zero p)
          rw [sg_one 0 _ (k + 1), if_pos (by omega)] at this
          exact this
        rw [hc] at e2
        have := Int.dvd_sub e1 e2
        rwa [show conv (fun j => C.getD j 0) (conv (fun j => (lowL p ts).getD j 0) (sq p ts st)) k - (conv (fun j => C.getD j 0) (conv (fun j => (lowL p ts).getD j 0) (sq p ts st)) k - conv (fun j => C.getD j 0) (sq p ts st) k) = conv (fun j => C.getD j 0) (sq p ts st) k by omega] at this
  exact fun k hk => key (k + 1) k (by omega) hk
theorem sq_uniq (h0 : 0 < p) {ts st : List Int} (hl : st.length = ts.length) {f : Nat → Int} (hf : ∀ i, 0 ≤ f i ∧ f i < p) (hs : ∀ i, i < ts.length → st.getD i 0 = f i) (hn : ∀ k, ts.length ≤ k → f k % p = sg (fun j => ts.getD j 0 * f (k - 1 - j)) ts.length % p) : ∀ i, sq p ts st i = f i := by
  have key : ∀ m i, i < m → sq p ts st i = f i := by
    intro m
    induction m with
    | zero => intro i h; omega
    | succ m ih =>
      intro i hi
      by_cases hil : i < ts.length
      · rw [sq_start p ts st i (by omega), hs i hil]
      · have e := sq_next p hl (i - ts.length)
        rw [show ts.length + (i - ts.length) = i by omega] at e
        rw [e, ← emod_small (hf i), hn i (by omega)]
        congr 1
        exact sg_congr fun j hj => by rw [ih (i - 1 - j) (by omega)]
  exact fun i => key (i + 1) i (by omega)
/-- .. told by its taps -/
theorem found_sq (hp : isPrime p) {ts st C : List Int} (ht : nums p ts) (hs : nums p st) (hl : st.length = ts.length) {L n : Nat} (hC : C.length = L + 1) (h0 : C.getD 0 0 = 1) (hL : L ≤ ts.length) (hn : 2 * ts.length ≤ n) (h : ∀ k, L ≤ k → k < n → p ∣ conv (fun j => C.getD j 0) (sq p ts st) k) (i : Nat) : sq p (tapsC p C) (sqs p ts st 0 L) i = sq p ts st i := by
  have pp := prime_pos hp
  have hlen : (tapsC p C).length = L := by rw [tapsC_len, hC]; omega
  refine sq_uniq (by omega) (by rw [sqs_len, hlen]) (fun i => sq_num (by omega) hs i) (fun i hi => ?_) (fun k hk => ?_) i
  · rw [sqs_getD _ _ _ _ _ _ (by omega), Nat.zero_add]
  · have g := goes_on hp ht hl (by omega) hL hn h k (by omega)
    have e := conv_taps (p := p) C (sq p ts st) k (by omega) h0
    rw [Int.emod_eq_zero_of_dvd g, show C.length - 1 = (tapsC p C).length by omega] at e
    have := Int.dvd_of_emod_eq_zero e.symm
    exact emod_of this
end
end IPL
end
section
set_option linter.all false
set_option maxRecDepth 8000
/-! BM3: weights that show that no register of a length makes a row. -/
namespace IPL
open IP
open PySem (PyData)
section
variable {p : Int}
theorem bmS_jump {g : BM} {x : Int} (h : (bmS p g x).L ≠ g.L) : (bmS p g x).m = 1 := by
  unfold bmS at h ⊢
  split
  · rename_i h0
    rw [if_pos h0] at h
    exact absurd rfl h
  · rename_i h0
    rw [if_neg h0] at h
    split
    · rfl
    · rename_i h1
      rw [if_neg h1] at h
      exact absurd rfl h
theorem bmR_snoc' (p : Int) (row : List Int) (x : Int) : bmR p (row ++ [x]) = bmS p (bmR p row) x := by
  unfold bmR
  rw [List.foldl_append]
  rfl
/-- the first beginning whose length is above -/
theorem first_above (p : Int) (row : List Int) (len : Nat) : ∀ n, n ≤ row.length → len < (bmR p (row.take n)).L → ∃ k, k < n ∧ len < (bmR p (row.take (k + 1))).L ∧ ∀ i, i ≤ k → (bmR p (row.take i)).L ≤ len
  | 0, _, h => by
    have e : (bmR p (row.take 0)).L = 0 := rfl
    omega
  | n + 1, hn, h => by
    by_cases h2 : len < (bmR p (row.take n)).L
    · obtain ⟨k, h3, h4, h5⟩ := first_above p row len n (by omega) h2
      exact ⟨k, by omega, h4, h5⟩
    · by_cases h3 : ∀ i, i ≤ n → (bmR p (row.take i)).L ≤ len
      · exact ⟨n, by omega, h, h3⟩
      · have : ∃ i, i ≤ n ∧ len < (bmR p (row.take i)).L := by
          refine Classical.byContradiction fun hc => h3 fun i hi => Nat.le_of_not_lt fun hl => hc ⟨i, hi, hl⟩
        obtain ⟨i, hi, hl⟩ := this
        have hin : i < n := by
          rcases Nat.lt_or_ge i n with h | h
          · exact h
          · rw [show i = n by omega] at hl
            exact absurd hl h2
        obtain ⟨k, h4, h5, h6⟩ := first_above p row len i (by omega) hl
        exact ⟨k, by omega, h5, h6⟩
/-- the weights -/
def wB (B : List Int) (k len size : Nat) : List Int := (List.range (size - len)).map fun i => if i ≤ k - len then B.getD (k - len - i) 0 else 0
theorem wB_len (B : List Int) (k len size : Nat) : (wB B k len size).length = size - len := by simp [wB]
structure JumpAt (p : Int) (row : List Int) (len k : Nat) (B : List Int) : Prop where
  nB : nums p B
  lB : 1 ≤ B.length
  le : B.length - 1 + len ≤ k
  hk : k < row.length
  one : cv B row k % p = 1
  zero : ∀ j, B.length - 1 ≤ j → j < k → p ∣ cv B row j
theorem jump_at (hp : isPrime p) {row : List Int} (hr : nums p row) {len k : Nat} (hk : k < row.length) (h1 : len < (bmR p (row.take (k + 1))).L) (h2 : (bmR p (row.take k)).L ≤ len) : JumpAt p row len k (bmR p (row.take (k + 1))).B := by
  have b := bmi hp (fun y hy => hr y (List.mem_of_mem_take hy) : nums p (row.take (k + 1)))
  have hs := bmR_s p (row.take (k + 1))
  have hlen : (row.take (k + 1)).length = k + 1 := by rw [List.length_take]; omega
  have et : row.take (k + 1) = row.take k ++ [row[k]] := by rw [List.take_succ, List.getElem?_eq_getElem hk]; rfl
  have hm : (bmR p (row.take (k + 1))).m = 1 := by
    rw [et, bmR_snoc'] at h1 ⊢
    exact bmS_jump (by omega)
  have sz := b.sz
  have lB := b.lB
  rw [hs, hlen, hm] at sz
  have pre : ∀ j, j ≤ k → cv (bmR p (row.take (k + 1))).B (bmR p (row.take (k + 1))).s j = cv (bmR p (row.take (k + 1))).B row j := fun j hj => by
    rw [hs]
    exact cv_prefix _ fun i hi => by rw [getD_take, if_pos (by omega)]
  refine ⟨b.nB, lB, by omega, hk, ?_, fun j h3 h4 => ?_⟩
  · have := b.one (by rw [hs, hlen, hm]; omega)
    rw [pre _ (by rw [hs, hlen, hm]; omega), hs, hlen, hm, Nat.add_sub_cancel] at this
    exact this
  · have := b.old j h3 (by rw [hs, hlen, hm]; omega)
    rwa [pre j (by omega)] at this
/-- a sum of weights and numbers, back places ahead -/
theorem wB_sum (p : Int) {row : List Int} {len k : Nat} {B : List Int} (h : JumpAt p row len k B) (back : Nat) (hb : back ≤ len) : (((wB B k len row.length).zip (row.drop (len - back))).map fun q => q.1 * q.2).sum = cv B row (k - back) := by
  have hl := h.le
  have hk := h.hk
  have e1 : ((wB B k len row.length).zip (row.drop (len - back))).map (fun q => q.1 * q.2) = (List.range (row.length - len)).map fun i => (wB B k len row.length).getD i 0 * row.getD (len - back + i) 0 := by
    apply List.ext_getElem
    · simp only [List.length_map, List.length_zip, wB_len, List.length_drop, List.length_range]
      omega
    · intro i h1 h2
      simp only [List.length_map, List.length_zip, wB_len, List.length_drop] at h1
      simp [List.getD, wB_len, show i < row.length - len by omega, show len - back + i < row.length by omega]
  rw [e1, sum_sg]
  have e2 : sg (fun i => (wB B k len row.length).getD i 0 * row.getD (len - back + i) 0) (row.length - len) = sg (fun i => B.getD (k - len - i) 0 * row.getD (len - back + i) 0) (k - len + 1) := by
    have hw : ∀ i, (wB B k len row.length).getD i 0 = if i < row.length - len then (if i ≤ k - len then B.getD (k - len - i) 0 else 0) else 0 := fun i => getD_range _ _ i
    have := sg_more (f := fun i => (wB B k len row.length).getD i 0 * row.getD (len - back + i) 0) (n := k - len + 1) (row.length - len - (k - len + 1)) (fun j hj => by
      rw [hw]
      split
      · rw [if_neg (by omega), Int.zero_mul]
      · rw [Int.zero_mul])
    rw [show k - len + 1 + (row.length - len - (k - len + 1)) = row.length - len by omega] at this
    rw [this]
    exact sg_congr fun j hj => by rw [hw, if_pos (by omega), if_pos (by omega)]
  rw [e2, ← sg_flip]
  unfold cv
  rw [sg_short (f := fun j => B.getD j 0 * row.getD (k - back - j) 0) (n := k - len + 1) (m := k - back + 1) (by omega) (fun j hj => by rw [getD_big B j (by omega), Int.zero_mul])]
  refine sg_congr fun j hj => ?_
  rw [show k - len - (k - len + 1 - 1 - j) = j by omega, show len - back + (k - len + 1 - 1 - j) = k - back - j by omega]
end
end IPL
end
section
set_option linter.all false
set_option maxRecDepth 8000
/-! Gauss: sums of numbers that are told, solved line by line. -/
namespace IPL
open IP
open PySem (PyData)
section
variable {p : Int}
/-- x fits a line: the numbers ahead times x are the last one -/
def Sat (p : Int) (many : Nat) (x : Nat → Int) (line : List Int) : Prop := p ∣ sg (fun k => line.getD k 0 * x k) many - line.getD many 0
abbrev Kn := List (Nat × List Int)
/-- a line less a multiple of another one -/
def less (p : Int) (many : Nat) (line : List Int) (f : Int) (o : List Int) : List Int := (List.range (many + 1)).map fun k => (line.getD k 0 - f * o.getD k 0) % p
theorem less_len (p : Int) (many : Nat) (line : List Int) (f : Int) (o : List Int) : (less p many line f o).length = many + 1 := by simp [less]
theorem less_getD (p : Int) (many : Nat) (line : List Int) (f : Int) (o : List Int) {k : Nat} (h : k ≤ many) : (less p many line f o).getD k 0 = (line.getD k 0 - f * o.getD k 0) % p := by
  unfold less
  rw [getD_range (fun k => (line.getD k 0 - f * o.getD k 0) % p), if_pos (by omega)]
theorem less_nums (h0 : 0 < p) (many : Nat) (line : List Int) (f : Int) (o : List Int) : nums p (less p many line f o) := by
  intro x hx
  obtain ⟨k, _, rfl⟩ := List.mem_map.mp hx
  exact ⟨Int.emod_nonneg _ (by omega), Int.emod_lt_of_pos _ h0⟩
theorem mod_dvd (x : Int) : p ∣ x % p - x := ⟨-(x / p), by have := Int.emod_add_mul_ediv x p; rw [Int.mul_neg]; omega⟩
theorem sat_less {many : Nat} {x : Nat → Int} {line o : List Int} (f : Int) (ho : Sat p many x o) : Sat p many x (less p many line f o) ↔ Sat p many x line := by
  have key : p ∣ (sg (fun k => (less p many line f o).getD k 0 * x k) many - (less p many line f o).getD many 0) - ((sg (fun k => line.getD k 0 * x k) many - line.getD many 0) - f * (sg (fun k => o.getD k 0 * x k) many - o.getD many 0)) := by
    have h1 : p ∣ sg (fun k => (less p many line f o).getD k 0 * x k) many - sg (fun k => line.getD k 0 * x k - f * (o.getD k 0 * x k)) many := sg_dvd fun k hk => by
      rw [less_getD p many line f o (by omega)]
      obtain ⟨u, hu⟩ := mod_dvd (p := p) (line.getD k 0 - f * o.getD k 0)
      exact ⟨u * x k, by rw [show p * (u * x k) = (p * u) * x k by grind, ← hu]; grind⟩
    rw [sg_sub, ← sg_mul_left] at h1
    have h2 := mod_dvd (p := p) (line.getD many 0 - f * o.getD many 0)
    rw [← less_getD p many line f o (Nat.le_refl _)] at h2
    obtain ⟨u, hu⟩ := h1
    obtain ⟨w, hw⟩ := h2
    exact ⟨u - w, by rw [Int.mul_sub p u w, ← hu, ← hw]; grind⟩
  obtain ⟨z, hz⟩ := ho
  obtain ⟨u, hu⟩ := key
  unfold Sat
  constructor
  · rintro ⟨w, hw⟩
    exact ⟨w - u + f * z, by rw [hw, hz] at hu; grind⟩
  · rintro ⟨w, hw⟩
    exact ⟨w + u - f * z, by rw [hw, hz] at hu; grind⟩
def sc (p : Int) (line : List Int) (f : Int) : List Int := line.map fun e => e * f % p
theorem sc_getD (p : Int) (line : List Int) (f : Int) (k : Nat) : (sc p line f).getD k 0 = line.getD k 0 * f % p := by
  unfold sc
  by_cases h : k < line.length
  · simp [List.getD, h]
  · rw [getD_big _ _ (by rw [List.length_map]; omega), getD_big line k (by omega), Int.zero_mul]
    rfl
theorem sc_nums (h0 : 0 < p) (line : List Int) (f : Int) : nums p (sc p line f) := by
  intro x hx
  obtain ⟨k, _, rfl⟩ := List.mem_map.mp hx
  exact ⟨Int.emod_nonneg _ (by omega), Int.emod_lt_of_pos _ h0⟩
theorem sat_sc {many : Nat} {x : Nat → Int} {line : List Int} {f g : Int} (h : p ∣ f * g - 1) : Sat p many x (sc p line f) ↔ Sat p many x line := by
  have key : p ∣ (sg (fun k => (sc p line f).getD k 0 * x k) many - (sc p line f).getD many 0) - f * (sg (fun k => line.getD k 0 * x k) many - line.getD many 0) := by
    have h1 : p ∣ sg (fun k => (sc p line f).getD k 0 * x k) many - sg (fun k => f * (line.getD k 0 * x k)) many := sg_dvd fun k hk => by
      rw [sc_getD]
      obtain ⟨u, hu⟩ := mod_dvd (p := p) (line.getD k 0 * f)
      exact ⟨u * x k, by rw [show p * (u * x k) = (p * u) * x k by grind, ← hu]; grind⟩
    rw [← sg_mul_left] at h1
    have h2 := mod_dvd (p := p) (line.getD many 0 * f)
    rw [← sc_getD] at h2
    obtain ⟨u, hu⟩ := h1
    obtain ⟨w, hw⟩ := h2
    exact ⟨u - w, by rw [Int.mul_sub p u w, ← hu, ← hw]; grind⟩
  obtain ⟨z, hz⟩ := h
  obtain ⟨u, hu⟩ := key
  unfold Sat
  constructor
  · rintro ⟨w, hw⟩
    obtain ⟨S, hS⟩ : ∃ S, S = sg (fun k => line.getD k 0 * x k) many - line.getD many 0 := ⟨_, rfl⟩
    rw [hw, ← hS] at hu
    rw [← hS]
    exact ⟨g * (w - u) - S * z, by
      have e1 : f * S = p * (w - u) := by grind
      have e2 : S = g * (f * S) - S * (f * g - 1) := by grind
      rw [e2, e1, hz]
      grind⟩
  · rintro ⟨w, hw⟩
    exact ⟨f * w + u, by rw [hw] at hu; grind⟩
structure KOk (p : Int) (many : Nat) (kn : Kn) : Prop where
  each : ∀ q ∈ kn, q.1 < many ∧ nums p q.2 ∧ q.2.length = many + 1 ∧ q.2.getD q.1 0 = 1
  pair : kn.Pairwise fun q q' => q.2.getD q'.1 0 = 0 ∧ q'.2.getD q.1 0 = 0
def AllSat (p : Int) (many : Nat) (x : Nat → Int) (kn : Kn) : Prop := ∀ q ∈ kn, Sat p many x q.2
/-- a line less what is known -/
def redu (p : Int) (many : Nat) (kn : Kn) (line : List Int) : List Int := kn.foldl (fun line q => less p many line (line.getD q.1 0) q.2) line
theorem redu_len {p : Int} {many : Nat} : ∀ (kn : Kn) {line : List Int}, line.length = many + 1 → (redu p many kn line).length = many + 1
  | [], _, h => h
  | q :: kn, line, _ => redu_len kn (less_len p many line _ _)
theorem redu_nums (h0 : 0 < p) {many : Nat} : ∀ (kn : Kn) {line : List Int}, nums p line → nums p (redu p many kn line)
  | [], _, h => h
  | q :: kn, line, _ => redu_nums h0 kn (less_nums h0 many line _ _)
theorem sat_redu {many : Nat} {x : Nat → Int} : ∀ (kn : Kn) {line : List Int}, AllSat p many x kn → (Sat p many x (redu p many kn line) ↔ Sat p many x line)
  | [], _, _ => Iff.rfl
  | q :: kn, line, h => (sat_redu kn fun z hz => h z (List.mem_cons_of_mem _ hz)).trans (sat_less _ (h q List.mem_cons_self))
theorem redu_keep {many : Nat} (h0 : 0 < p) {j : Nat} (hj : j ≤ many) : ∀ (kn : Kn) {line : List Int}, (∀ q ∈ kn, q.2.getD j 0 = 0) → line.getD j 0 = 0 → (redu p many kn line).getD j 0 = 0
  | [], _, _, h => h
  | q :: kn, line, hk, h => redu_keep h0 hj kn (fun z hz => hk z (List.mem_cons_of_mem _ hz)) (by
    rw [less_getD p many line _ _ hj, h, hk q List.mem_cons_self, Int.mul_zero]
    rfl)
theorem redu_zero {many : Nat} (h0 : 0 < p) : ∀ (kn : Kn) {line : List Int}, KOk p many kn → ∀ q ∈ kn, (redu p many kn line).getD q.1 0 = 0
  | [], _, _, q, hq => by cases hq
  | z :: kn, line, K, q, hq => by
    have hz := K.each z List.mem_cons_self
    have hp := List.pairwise_cons.mp K.pair
    have K' : KOk p many kn := ⟨fun y hy => K.each y (List.mem_cons_of_mem _ hy), hp.2⟩
    rcases List.mem_cons.mp hq with rfl | hq
    · show (redu p many kn (less p many line (line.getD q.1 0) q.2)).getD q.1 0 = 0
      refine redu_keep h0 (by omega) kn (fun y hy => (hp.1 y hy).2) ?_
      rw [less_getD p many line _ _ (by omega), hz.2.2.2, Int.mul_one, Int.sub_self]
      rfl
    · exact redu_zero h0 kn K' q hq
/-- the next line is put in -/
def lead (many : Nat) (line : List Int) : List Nat := (List.range many).filter fun k => line.getD k 0 != 0
noncomputable def put (p : Int) (many : Nat) (kn : Kn) (line : List Int) (pl : Nat) : Kn :=
  kn.map (fun q => (q.1, less p many q.2 (q.2.getD pl 0) (sc p line (ivf p (line.getD pl 0))))) ++ [(pl, sc p line (ivf p (line.getD pl 0)))]
noncomputable def gStep (p : Int) (many : Nat) (kn : Kn) (line0 : List Int) : Option Kn :=
  match lead many (redu p many kn line0) with
  | [] => if (redu p many kn line0).getD many 0 = 0 then some kn else none
  | pl :: _ => some (put p many kn (redu p many kn line0) pl)
theorem ivf_mul (hp : isPrime p) {d : Int} (h : 0 < d ∧ d < p) : p ∣ d * (ivf p d : Int) - 1 := by
  have hi := ivf_spec hp (d := d) (by rw [emod_small ⟨by omega, h.2⟩]; omega)
  exact Int.dvd_of_emod_eq_zero (by
    have pp := prime_pos hp
    rw [Int.sub_emod, hi.2.2.1, show (1 : Int) % p = 1 from emod_small ⟨by omega, by omega⟩]
    rfl)
theorem put_ok (hp : isPrime p) {many : Nat} {kn : Kn} (K : KOk p many kn) {line : List Int} (hn : nums p line) (hl : line.length = many + 1) (hz : ∀ q ∈ kn, line.getD q.1 0 = 0) {pl : Nat} (hpl : pl < many) (hne : line.getD pl 0 ≠ 0) : KOk p many (put p many kn line pl) := by
  have pp := prime_pos hp
  have hb := nums_getD (by omega) hn pl
  have iv := ivf_mul hp (d := line.getD pl 0) ⟨by omega, hb.2⟩
  have one : (sc p line (ivf p (line.getD pl 0))).getD pl 0 = 1 := by
    rw [sc_getD]
    have := emod_of iv
    rw [this]
    exact emod_small ⟨by omega, by omega⟩
  have zz : ∀ q ∈ kn, (sc p line (ivf p (line.getD pl 0))).getD q.1 0 = 0 := fun q hq => by
    rw [sc_getD, hz q hq, Int.zero_mul]
    rfl
  constructor
  · intro q hq
    rcases List.mem_append.mp hq with hq | hq
    · obtain ⟨z, hz', rfl⟩ := List.mem_map.mp hq
      have hk := K.each z hz'
      refine ⟨hk.1, less_nums (by omega) _ _ _ _, less_len _ _ _ _ _, ?_⟩
      show (less p many z.2 (z.2.getD pl 0) (sc p line (ivf p (line.getD pl 0)))).getD z.1 0 = 1
      rw [less_getD _ _ _ _ _ (by omega), hk.2.2.2, zz z hz', Int.mul_zero, Int.sub_zero]
      exact emod_small ⟨by omega, by omega⟩
    · obtain rfl := List.mem_singleton.mp hq
      exact ⟨hpl, sc_nums (by omega) _ _, by simp [sc, hl], one⟩
  · unfold put
    rw [List.pairwise_append]
    refine ⟨?_, List.pairwise_singleton _ _, fun q hq q' hq' => ?_⟩
    · rw [List.pairwise_map]
      refine List.Pairwise.imp_of_mem (fun {q q'} hq hq' h => ?_) K.pair
      have k1 := K.each q hq
      have k2 := K.each q' hq'
      constructor
      · show (less p many q.2 (q.2.getD pl 0) (sc p line (ivf p (line.getD pl 0)))).getD q'.1 0 = 0
        rw [less_getD _ _ _ _ _ (by omega), h.1, zz q' hq', Int.mul_zero]
        rfl
      · show (less p many q'.2 (q'.2.getD pl 0) (sc p line (ivf p (line.getD pl 0)))).getD q.1 0 = 0
        rw [less_getD _ _ _ _ _ (by omega), h.2, zz q hq, Int.mul_zero]
        rfl
    · obtain rfl := List.mem_singleton.mp hq'
      obtain ⟨z, hz', rfl⟩ := List.mem_map.mp hq
      constructor
      · show (less p many z.2 (z.2.getD pl 0) (sc p line (ivf p (line.getD pl 0)))).getD pl 0 = 0
        rw [less_getD _ _ _ _ _ (by omega), one, Int.mul_one, Int.sub_self]
        rfl
      · exact zz z hz'
theorem put_sat (hp : isPrime p) {many : Nat} {kn : Kn} {line : List Int} (hn : nums p line) {pl : Nat} (hne : line.getD pl 0 ≠ 0) {x : Nat → Int} : AllSat p many x (put p many kn line pl) ↔ AllSat p many x kn ∧ Sat p many x line := by
  have pp := prime_pos hp
  have hb := nums_getD (by omega) hn pl
  have iv := ivf_mul hp (d := line.getD pl 0) ⟨by omega, hb.2⟩
  rw [Int.mul_comm] at iv
  have hs : Sat p many x (sc p line (ivf p (line.getD pl 0))) ↔ Sat p many x line := sat_sc iv
  constructor
  · intro h
    have h1 : Sat p many x (sc p line (ivf p (line.getD pl 0))) := h (pl, _) (List.mem_append_right _ (List.mem_singleton.mpr rfl))
    refine ⟨fun q hq => ?_, hs.mp h1⟩
    have := h (q.1, less p many q.2 (q.2.getD pl 0) (sc p line (ivf p (line.getD pl 0)))) (List.mem_append_left _ (List.mem_map.mpr ⟨q, hq, rfl⟩))
    exact (sat_less _ h1).mp this
  · rintro ⟨h1, h2⟩ q hq
    have h3 := hs.mpr h2
    rcases List.mem_append.mp hq with hq | hq
    · obtain ⟨z, hz', rfl⟩ := List.mem_map.mp hq
      exact (sat_less _ h3).mpr (h1 z hz')
    · obtain rfl := List.mem_singleton.mp hq
      exact h3
theorem lead_nil {many : Nat} {line : List Int} (h : lead many line = []) {k : Nat} (hk : k < many) : line.getD k 0 = 0 := by
  refine Classical.byContradiction fun hn => ?_
  have : k ∈ lead many line := List.mem_filter.mpr ⟨List.mem_range.mpr hk, by simpa using hn⟩
  rw [h] at this
  cases this
theorem lead_cons {many : Nat} {line : List Int} {pl : Nat} {rest : List Nat} (h : lead many line = pl :: rest) : pl < many ∧ line.getD pl 0 ≠ 0 := by
  have : pl ∈ lead many line := by rw [h]; exact List.mem_cons_self
  have := List.mem_filter.mp this
  exact ⟨List.mem_range.mp this.1, by simpa using this.2⟩
/-- one line more: the same that fit; or none does -/
theorem gStep_ok (hp : isPrime p) {many : Nat} {kn : Kn} (K : KOk p many kn) {line0 : List Int} (hn : nums p line0) (hl : line0.length = many + 1) :
    (∀ kn', gStep p many kn line0 = some kn' → KOk p many kn' ∧ ∀ x, AllSat p many x kn' ↔ AllSat p many x kn ∧ Sat p many x line0) ∧ (gStep p many kn line0 = none → ∀ x, AllSat p many x kn → ¬ Sat p many x line0) := by
  have pp := prime_pos hp
  have n1 := redu_nums (by omega) (many := many) kn hn
  have l1 := redu_len (p := p) kn hl
  have z1 := redu_zero (by omega) kn (line := line0) K
  unfold gStep
  cases hlead : lead many (redu p many kn line0) with
  | nil =>
    have hz : ∀ x : Nat → Int, sg (fun k => (redu p many kn line0).getD k 0 * x k) many = 0 := fun x => sg_zero fun k hk => by rw [lead_nil hlead hk, Int.zero_mul]
    dsimp only
    by_cases h0 : (redu p many kn line0).getD many 0 = 0
    · rw [if_pos h0]
      refine ⟨fun kn' e => ?_, fun e => by cases e⟩
      cases e
      refine ⟨K, fun x => ⟨fun h => ⟨h, (sat_redu kn h).mp ?_⟩, fun h => h.1⟩⟩
      unfold Sat
      rw [hz, h0]
      exact Int.dvd_zero p
    · rw [if_neg h0]
      refine ⟨fun kn' e => (by cases e), fun _ x h hs => ?_⟩
      have this : p ∣ sg (fun k => (redu p many kn line0).getD k 0 * x k) many - (redu p many kn line0).getD many 0 := (sat_redu kn h).mpr hs
      rw [hz] at this
      have hb := nums_getD (by omega) n1 many
      obtain ⟨w, hw⟩ := this
      have hw0 : w < 0 := by
        refine Classical.byContradiction fun hn => ?_
        have : 0 ≤ p * w := Int.mul_nonneg (by omega) (by omega)
        omega
      have hw1 : p * w ≤ p * (-1) := Int.mul_le_mul_of_nonneg_left (by omega) (by omega)
      omega
  | cons pl rest =>
    have hlc := lead_cons hlead
    dsimp only
    refine ⟨fun kn' e => ?_, fun e => by cases e⟩
    cases e
    refine ⟨put_ok hp K n1 l1 z1 hlc.1 hlc.2, fun x => ?_⟩
    rw [put_sat hp n1 hlc.2]
    constructor
    · rintro ⟨h1, h2⟩
      exact ⟨h1, (sat_redu kn h1).mp h2⟩
    · rintro ⟨h1, h2⟩
      exact ⟨h1, (sat_redu kn h1).mpr h2⟩
noncomputable def gRun (p : Int) (many : Nat) : List (List Int) → Kn → Option Kn
  | [], kn => some kn
  | l :: ls, kn => match gStep p many kn l with
    | some kn' => gRun p many ls kn'
    | none => none
theorem gRun_ok (hp : isPrime p) {many : Nat} : ∀ (ls : List (List Int)) (kn : Kn), KOk p many kn → (∀ l ∈ ls, nums p l ∧ l.length = many + 1) →
    (∀ kn', gRun p many ls kn = some kn' → KOk p many kn' ∧ ∀ x, AllSat p many x kn' ↔ AllSat p many x kn ∧ ∀ l ∈ ls, Sat p many x l) ∧ (gRun p many ls kn = none → ∀ x, AllSat p many x kn → ¬ ∀ l ∈ ls, Sat p many x l)
  | [], kn, K, _ => ⟨fun kn' e => by
    cases e
    exact ⟨K, fun x => ⟨fun h => ⟨h, fun l hl => by cases hl⟩, fun h => h.1⟩⟩, fun e => by cases e⟩
  | l :: ls, kn, K, hls => by
    obtain ⟨h1, h2⟩ := gStep_ok hp K (hls l List.mem_cons_self).1 (hls l List.mem_cons_self).2
    unfold gRun
    cases e : gStep p many kn l with
    | none =>
      exact ⟨fun kn' e' => (by cases e'), fun _ x h hs => h2 e x h (hs l List.mem_cons_self)⟩
    | some kn1 =>
      obtain ⟨K1, s1⟩ := h1 kn1 e
      obtain ⟨h3, h4⟩ := gRun_ok hp ls kn1 K1 fun l hl => hls l (List.mem_cons_of_mem _ hl)
      refine ⟨fun kn' e' => ?_, fun e' x h hs => ?_⟩
      · obtain ⟨K2, s2⟩ := h3 kn' e'
        refine ⟨K2, fun x => ?_⟩
        rw [s2 x, s1 x, List.forall_mem_cons, and_assoc]
      · exact h4 e' x ((s1 x).mpr ⟨h, hs l List.mem_cons_self⟩) fun l hl => hs l (List.mem_cons_of_mem _ hl)
/-- what is told at the end: numbers at the pivots -/
def firstK (many : Nat) (kn : Kn) : List Int := kn.foldl (fun f q => f.set q.1 (q.2.getD many 0)) (List.replicate many 0)
theorem firstK_fold (many : Nat) : ∀ (kn : Kn) (f : List Int), f.length = many → (∀ q ∈ kn, q.1 < many) → (kn.Pairwise fun q q' => q.1 ≠ q'.1) →
    (kn.foldl (fun f q => f.set q.1 (q.2.getD many 0)) f).length = many ∧ (∀ q ∈ kn, (kn.foldl (fun f q => f.set q.1 (q.2.getD many 0)) f).getD q.1 0 = q.2.getD many 0) ∧ ∀ k, (∀ q ∈ kn, q.1 ≠ k) → (kn.foldl (fun f q => f.set q.1 (q.2.getD many 0)) f).getD k 0 = f.getD k 0
  | [], f, hf, _, _ => ⟨hf, (fun q hq => by cases hq), fun k _ => rfl⟩
  | q :: kn, f, hf, hk, hp => by
    have hp := List.pairwise_cons.mp hp
    obtain ⟨h1, h2, h3⟩ := firstK_fold many kn (f.set q.1 (q.2.getD many 0)) (by rw [List.length_set]; exact hf) (fun z hz => hk z (List.mem_cons_of_mem _ hz)) hp.2
    refine ⟨h1, fun z hz => ?_, fun k hne => ?_⟩
    · rcases List.mem_cons.mp hz with rfl | hz
      · show (kn.foldl _ (f.set z.1 (z.2.getD many 0))).getD z.1 0 = _
        rw [h3 z.1 fun y hy e => hp.1 y hy e.symm, getD_set _ _ _ _ (by rw [hf]; exact hk z List.mem_cons_self), if_pos rfl]
      · exact h2 z hz
    · show (kn.foldl _ (f.set q.1 (q.2.getD many 0))).getD k 0 = _
      rw [h3 k fun y hy => hne y (List.mem_cons_of_mem _ hy), getD_set _ _ _ _ (by rw [hf]; exact hk q List.mem_cons_self), if_neg fun e => hne q List.mem_cons_self e.symm]
theorem KOk.piv {many : Nat} {kn : Kn} (K : KOk p many kn) : kn.Pairwise fun q q' => q.1 ≠ q'.1 :=
  List.Pairwise.imp_of_mem (fun {q q'} hq hq' h e => by
    have := (K.each q' hq').2.2.2
    rw [← e, h.2] at this
    cases this) K.pair
theorem firstK_len {many : Nat} {kn : Kn} (K : KOk p many kn) : (firstK many kn).length = many := (firstK_fold many kn _ (by simp) (fun q hq => (K.each q hq).1) K.piv).1
theorem firstK_sat {many : Nat} {kn : Kn} (K : KOk p many kn) : AllSat p many (fun k => (firstK many kn).getD k 0) kn := by
  obtain ⟨h1, h2, h3⟩ := firstK_fold many kn (List.replicate many 0) (by simp) (fun q hq => (K.each q hq).1) K.piv
  intro q hq
  have hk := K.each q hq
  have e : sg (fun k => q.2.getD k 0 * (firstK many kn).getD k 0) many = sg (fun k => if k = q.1 then q.2.getD many 0 else 0) many := sg_congr fun k hkm => by
    by_cases hkq : k = q.1
    · subst hkq
      rw [if_pos rfl, hk.2.2.2, Int.one_mul]
      exact h2 q hq
    · rw [if_neg hkq]
      by_cases hex : ∃ z ∈ kn, z.1 = k
      · obtain ⟨z, hz, rfl⟩ := hex
        have : q.2.getD z.1 0 = 0 := by
          have hpw := K.pair
          have hne : q ≠ z := fun e => hkq (by rw [e])
          obtain ⟨i, hi, rfl⟩ := List.mem_iff_getElem.mp hq
          obtain ⟨j, hj, rfl⟩ := List.mem_iff_getElem.mp hz
          rcases Nat.lt_trichotomy i j with h | h | h
          · exact (List.pairwise_iff_getElem.mp hpw i j hi hj h).1
          · subst h
            exact absurd rfl hne
          · exact (List.pairwise_iff_getElem.mp hpw j i hj hi h).2
        rw [this, Int.zero_mul]
      · have : (firstK many kn).getD k 0 = 0 := by
          have := h3 k fun z hz e => hex ⟨z, hz, e⟩
          rw [getD_zeros] at this
          exact this
        rw [this, Int.mul_zero]
  unfold Sat
  rw [e, sg_one, if_pos hk.1, Int.sub_self]
  exact Int.dvd_zero p
theorem firstK_nums (h0 : 0 < p) {many : Nat} {kn : Kn} (K : KOk p many kn) : nums p (firstK many kn) := by
  obtain ⟨h1, h2, h3⟩ := firstK_fold many kn (List.replicate many 0) (by simp) (fun q hq => (K.each q hq).1) K.piv
  intro x hx
  obtain ⟨k, hk, rfl⟩ := List.getElem_of_mem hx
  have e : (firstK many kn)[k] = (firstK many kn).getD k 0 := by simp [List.getD, hk]
  rw [e]
  by_cases hex : ∃ z ∈ kn, z.1 = k
  · obtain ⟨z, hz, rfl⟩ := hex
    rw [show (firstK many kn).getD z.1 0 = z.2.getD many 0 from h2 z hz]
    exact nums_getD h0 (K.each z hz).2.1 many
  · have := h3 k fun z hz e => hex ⟨z, hz, e⟩
    rw [getD_zeros] at this
    rw [show (firstK many kn).getD k 0 = 0 from this]
    omega
end
end IPL
end
section
set_option linter.all false
set_option maxRecDepth 8000
/-! Dim: more rows than places are dependent; registers of rows that are told by few others. -/
namespace IPL
open IP
open PySem (PyData)
section
variable {p : Int}
theorem all_in_len : ∀ (m : Nat) (l : List Nat), (∀ k, k < m → k ∈ l) → m ≤ l.length
  | 0, _, _ => Nat.zero_le _
  | m + 1, l, h => by
    have hm := h m (by omega)
    have := all_in_len m (l.erase m) fun k hk => (List.mem_erase_of_ne (by omega)).mpr (h k (by omega))
    rw [List.length_erase_of_mem hm] at this
    have := List.length_pos_of_mem hm
    omega
theorem gStep_len {many : Nat} {kn kn' : Kn} {l : List Int} (h : gStep p many kn l = some kn') : kn'.length ≤ kn.length + 1 := by
  unfold gStep at h
  split at h
  · split at h
    · cases h
      omega
    · cases h
  · cases h
    simp [put]
theorem gRun_len {many : Nat} : ∀ (ls : List (List Int)) {kn kn' : Kn}, gRun p many ls kn = some kn' → kn'.length ≤ kn.length + ls.length
  | [], kn, kn', h => by
    cases h
    simp
  | l :: ls, kn, kn', h => by
    unfold gRun at h
    cases e : gStep p many kn l with
    | none =>
      rw [e] at h
      cases h
    | some kn1 =>
      rw [e] at h
      have h1 := gStep_len e
      have h2 := gRun_len ls h
      rw [List.length_cons]
      omega
theorem set_getD_ne (l : List Int) (i j : Nat) (v : Int) (h : j ≠ i) : (l.set i v).getD j 0 = l.getD j 0 := by
  by_cases hi : i < l.length
  · rw [getD_set _ _ _ _ hi, if_neg h]
  · rw [List.set_eq_of_length_le (by omega)]
/-- a solution other than zeros, where there are more unknowns than lines -/
theorem nonzero (hp : isPrime p) {many : Nat} (ls : List (List Int)) (hl : ls.length < many) (hls : ∀ l ∈ ls, nums p l ∧ l.length = many + 1 ∧ l.getD many 0 = 0) :
    ∃ x : Nat → Int, (∃ k, k < many ∧ x k % p ≠ 0) ∧ ∀ l ∈ ls, p ∣ sg (fun k => l.getD k 0 * x k) many := by
  have pp := prime_pos hp
  have K0 : KOk p many [] := ⟨(fun q hq => by cases hq), List.Pairwise.nil⟩
  obtain ⟨h1, h2⟩ := gRun_ok hp ls [] K0 fun l hl => ⟨(hls l hl).1, (hls l hl).2.1⟩
  have zs : ∀ l ∈ ls, Sat p many (fun _ => 0) l := fun l hl => by
    unfold Sat
    rw [sg_zero fun k _ => Int.mul_zero _, (hls l hl).2.2]
    exact Int.dvd_zero p
  cases e : gRun p many ls [] with
  | none => exact absurd zs (h2 e (fun _ => 0) fun q hq => by cases hq)
  | some kn =>
    obtain ⟨K, sat⟩ := h1 kn e
    have hlen : kn.length < many := by
      have := gRun_len ls e
      simp at this
      omega
    have z0 : AllSat p many (fun _ => 0) kn := (sat _).mpr ⟨fun q hq => (by cases hq), zs⟩
    obtain ⟨pl, hpl, hno⟩ : ∃ pl, pl < many ∧ ∀ q ∈ kn, q.1 ≠ pl := by
      refine Classical.byContradiction fun hc => ?_
      have := all_in_len many (kn.map (·.1)) fun k hk => by
        refine Classical.byContradiction fun hn => hc ⟨k, hk, fun q hq e => hn (List.mem_map.mpr ⟨q, hq, e⟩)⟩
      rw [List.length_map] at this
      omega
    let kn2 : Kn := kn.map fun q => (q.1, q.2.set many ((-q.2.getD pl 0) % p))
    have K2 : KOk p many kn2 := by
      constructor
      · intro q hq
        obtain ⟨z, hz, rfl⟩ := List.mem_map.mp hq
        have hk := K.each z hz
        refine ⟨hk.1, fun y hy => ?_, by simp [hk.2.2.1], ?_⟩
        · rcases List.mem_or_eq_of_mem_set hy with h | h
          · exact hk.2.1 y h
          · rw [h]
            exact ⟨Int.emod_nonneg _ (by omega), Int.emod_lt_of_pos _ (by omega)⟩
        · show (z.2.set many _).getD z.1 0 = 1
          rw [set_getD_ne _ _ _ _ (by omega)]
          exact hk.2.2.2
      · show (kn.map _).Pairwise _
        rw [List.pairwise_map]
        refine List.Pairwise.imp_of_mem (fun {q q'} hq hq' h => ?_) K.pair
        have k1 := K.each q hq
        have k2 := K.each q' hq'
        constructor
        · show (q.2.set many _).getD q'.1 0 = 0
          rw [set_getD_ne _ _ _ _ (by omega)]
          exact h.1
        · show (q'.2.set many _).getD q.1 0 = 0
          rw [set_getD_ne _ _ _ _ (by omega)]
          exact h.2
    have s2 := firstK_sat K2
    have fpl : (firstK many kn2).getD pl 0 = 0 := by
      have := (firstK_fold many kn2 (List.replicate many 0) (by simp) (fun q hq => (K2.each q hq).1) K2.piv).2.2 pl (fun q hq => by
        obtain ⟨z, hz, rfl⟩ := List.mem_map.mp hq
        exact hno z hz)
      rw [getD_zeros] at this
      exact this
    refine ⟨fun k => (firstK many kn2).getD k 0 + (if k = pl then 1 else 0), ⟨pl, hpl, ?_⟩, ?_⟩
    · show ((firstK many kn2).getD pl 0 + (if pl = pl then 1 else 0)) % p ≠ 0
      rw [fpl, if_pos rfl, emod_small ⟨by omega, by omega⟩]
      omega
    · have all : AllSat p many (fun k => (firstK many kn2).getD k 0 + (if k = pl then 1 else 0)) kn := by
        intro q hq
        have hk := K.each q hq
        have a1 : p ∣ sg (fun k => (q.2.set many ((-q.2.getD pl 0) % p)).getD k 0 * (firstK many kn2).getD k 0) many - (q.2.set many ((-q.2.getD pl 0) % p)).getD many 0 := s2 (q.1, _) (List.mem_map.mpr ⟨q, hq, rfl⟩)
        rw [getD_set _ _ _ _ (by omega), if_pos rfl, sg_congr (g := fun k => q.2.getD k 0 * (firstK many kn2).getD k 0) (fun k hk => by rw [set_getD_ne _ _ _ _ (by omega)])] at a1
        have a2 : p ∣ sg (fun k => q.2.getD k 0 * 0) many - q.2.getD many 0 := z0 q hq
        rw [sg_zero fun k _ => Int.mul_zero _] at a2
        have a3 := mod_dvd (p := p) (-q.2.getD pl 0)
        have a4 : sg (fun k => q.2.getD k 0 * ((firstK many kn2).getD k 0 + (if k = pl then 1 else 0))) many = sg (fun k => q.2.getD k 0 * (firstK many kn2).getD k 0) many + q.2.getD pl 0 := by
          rw [sg_congr (g := fun k => q.2.getD k 0 * (firstK many kn2).getD k 0 + (if k = pl then q.2.getD pl 0 else 0)) (fun k _ => by
            by_cases h : k = pl
            · subst h
              rw [if_pos rfl, if_pos rfl, Int.mul_add, Int.mul_one]
            · rw [if_neg h, if_neg h, Int.add_zero, Int.add_zero]), sg_add, sg_one, if_pos hpl]
        show p ∣ sg (fun k => q.2.getD k 0 * ((firstK many kn2).getD k 0 + (if k = pl then 1 else 0))) many - q.2.getD many 0
        rw [a4]
        obtain ⟨u, hu⟩ := a1
        obtain ⟨v, hv⟩ := a2
        obtain ⟨w, hw⟩ := a3
        exact ⟨u + v + w, by rw [Int.mul_add, Int.mul_add, ← hu, ← hv, ← hw]; omega⟩
      intro l hl
      have := ((sat _).mp all).2 l hl
      unfold Sat at this
      rw [(hls l hl).2.2, Int.sub_zero] at this
      exact this
/-- d + 1 rows of d numbers -/
theorem dep (hp : isPrime p) (d : Nat) (v : Nat → Nat → Int) : ∃ c : Nat → Int, (∃ i, i ≤ d ∧ c i % p ≠ 0) ∧ ∀ j, j < d → p ∣ sg (fun i => v i j * c i) (d + 1) := by
  have pp := prime_pos hp
  let ls : List (List Int) := (List.range d).map fun j => (List.range (d + 1)).map (fun i => v i j % p) ++ [0]
  obtain ⟨x, ⟨k, hk, hx⟩, h⟩ := nonzero hp (many := d + 1) ls (by simp [ls]) (fun l hl => by
    obtain ⟨j, _, rfl⟩ := List.mem_map.mp hl
    refine ⟨fun y hy => ?_, by simp, ?_⟩
    · rcases List.mem_append.mp hy with hy | hy
      · obtain ⟨i, _, rfl⟩ := List.mem_map.mp hy
        exact ⟨Int.emod_nonneg _ (by omega), Int.emod_lt_of_pos _ (by omega)⟩
      · have : y = 0 := by simpa using hy
        omega
    · rw [getD_app_r _ _ _ (by simp)]
      simp)
  refine ⟨x, ⟨k, by omega, hx⟩, fun j hj => ?_⟩
  have h1 := h _ (List.mem_map.mpr ⟨j, List.mem_range.mpr hj, rfl⟩)
  have h2 : p ∣ sg (fun i => v i j * x i) (d + 1) - sg (fun k => ((List.range (d + 1)).map (fun i => v i j % p) ++ [0]).getD k 0 * x k) (d + 1) := sg_dvd fun i hi => by
    rw [getD_app_l _ _ _ (by simp; omega), getD_range (fun i => v i j % p), if_pos hi]
    obtain ⟨u, hu⟩ := mod_dvd (p := p) (v i j)
    exact ⟨-(u * x i), by rw [show p * -(u * x i) = -((p * u) * x i) by grind, ← hu]; grind⟩
  have := Int.dvd_add h2 h1
  rwa [Int.sub_add_cancel] at this
theorem sg_swap (f : Nat → Nat → Int) (a : Nat) : ∀ b, sg (fun i => sg (fun j => f i j) b) a = sg (fun j => sg (fun i => f i j) a) b
  | 0 => by simp only [sg]; exact sg_zero fun _ _ => rfl
  | b + 1 => by
    show sg (fun i => sg (fun j => f i j) b + f i b) a = sg (fun j => sg (fun i => f i j) a) b + sg (fun i => f i b) a
    rw [sg_add, sg_swap f a b]
/-- a row whose next d ones are told by d others has a register of at most d taps -/
theorem reg_of (hp : isPrime p) {d : Nat} {f : Nat → Int} {b : Nat → Nat → Int} {v : Nat → Nat → Int} (h : ∀ i n, i ≤ d → p ∣ f (n + i) - sg (fun j => v i j * b j n) d) :
    ∃ (C : List Int) (t : Nat), t ≤ d ∧ C.length = t + 1 ∧ nums p C ∧ C.getD 0 0 = 1 ∧ ∀ k, t ≤ k → p ∣ conv (fun j => C.getD j 0) f k := by
  have pp := prime_pos hp
  obtain ⟨c, ⟨i0, hi0, hc0⟩, hd⟩ := dep hp d v
  have top : ∀ m, m ≤ d + 1 → (∃ i, i < m ∧ c i % p ≠ 0) → ∃ t, t < m ∧ c t % p ≠ 0 ∧ ∀ i, t < i → i < m → c i % p = 0 := by
    intro m
    induction m with
    | zero => rintro _ ⟨i, h, _⟩; omega
    | succ m ih =>
      rintro hm ⟨i, hi, hci⟩
      by_cases hm0 : c m % p = 0
      · have him : i < m := by
          rcases Nat.lt_or_ge i m with h | h
          · exact h
          · rw [show i = m by omega] at hci
            exact absurd hm0 hci
        obtain ⟨t, h1, h2, h3⟩ := ih (by omega) ⟨i, him, hci⟩
        exact ⟨t, by omega, h2, fun j h4 h5 => by
          by_cases hj : j = m
          · rw [hj]
            exact hm0
          · exact h3 j h4 (by omega)⟩
      · exact ⟨m, by omega, hm0, fun j h4 h5 => by omega⟩
  obtain ⟨t, ht, hct, hz⟩ := top (d + 1) (Nat.le_refl _) ⟨i0, by omega, hc0⟩
  have iv := ivf_spec hp hct
  refine ⟨(List.range (t + 1)).map fun i => (ivf p (c t) : Int) * c (t - i) % p, t, by omega, by simp, fun y hy => ?_, ?_, fun k hk => ?_⟩
  · obtain ⟨i, _, rfl⟩ := List.mem_map.mp hy
    exact ⟨Int.emod_nonneg _ (by omega), Int.emod_lt_of_pos _ (by omega)⟩
  · rw [getD_range (fun i => (ivf p (c t) : Int) * c (t - i) % p), if_pos (by omega), Nat.sub_zero, Int.mul_comm]
    exact iv.2.2.1
  · -- the sum over the taps, turned about
    have e1 : p ∣ conv (fun j => ((List.range (t + 1)).map fun i => (ivf p (c t) : Int) * c (t - i) % p).getD j 0) f k - (ivf p (c t) : Int) * sg (fun i => c i * f (k - t + i)) (d + 1) := by
      have a1 : conv (fun j => ((List.range (t + 1)).map fun i => (ivf p (c t) : Int) * c (t - i) % p).getD j 0) f k = sg (fun j => ((List.range (t + 1)).map fun i => (ivf p (c t) : Int) * c (t - i) % p).getD j 0 * f (k - j)) (t + 1) := by
        unfold conv
        exact sg_short (by omega) (fun j hj => by
          show ((List.range (t + 1)).map fun i => (ivf p (c t) : Int) * c (t - i) % p).getD j 0 * f (k - j) = 0
          rw [getD_big _ _ (by simp; omega), Int.zero_mul])
      have a2 : p ∣ sg (fun i => c i * f (k - t + i)) (d + 1) - sg (fun i => c i * f (k - t + i)) (t + 1) := by
        have := sg_dvd (p := p) (f := fun i => c i * f (k - t + i)) (g := fun i => if i < t + 1 then c i * f (k - t + i) else 0) (n := d + 1) (fun i hi => by
          split
          · rw [Int.sub_self]
            exact Int.dvd_zero p
          · rw [Int.sub_zero]
            exact Int.dvd_mul_of_dvd_left (Int.dvd_of_emod_eq_zero (hz i (by omega) hi)))
        rw [sg_short (f := fun i => if i < t + 1 then c i * f (k - t + i) else 0) (n := t + 1) (m := d + 1) (by omega) (fun j hj => if_neg (by omega)), sg_congr (f := fun i => if i < t + 1 then c i * f (k - t + i) else 0) (g := fun i => c i * f (k - t + i)) (n := t + 1) (fun j hj => if_pos hj)] at this
        exact this
      have a3 : p ∣ sg (fun j => ((List.range (t + 1)).map fun i => (ivf p (c t) : Int) * c (t - i) % p).getD j 0 * f (k - j)) (t + 1) - (ivf p (c t) : Int) * sg (fun i => c i * f (k - t + i)) (t + 1) := by
        rw [← sg_flip (fun i => c i * f (k - t + i)) (t + 1), sg_mul_left]
        refine sg_dvd fun j hj => ?_
        rw [getD_range (fun i => (ivf p (c t) : Int) * c (t - i) % p), if_pos hj, show t + 1 - 1 - j = t - j by omega, show k - t + (t - j) = k - j by omega]
        obtain ⟨u, hu⟩ := mod_dvd (p := p) ((ivf p (c t) : Int) * c (t - j))
        exact ⟨u * f (k - j), by rw [show p * (u * f (k - j)) = (p * u) * f (k - j) by grind, ← hu]; grind⟩
      rw [a1]
      obtain ⟨u, hu⟩ := a2
      obtain ⟨w, hw⟩ := a3
      exact ⟨w - (ivf p (c t) : Int) * u, by
        rw [Int.mul_sub p, ← hw, show p * ((ivf p (c t) : Int) * u) = (ivf p (c t) : Int) * (p * u) by grind, ← hu]
        grind⟩
    have e2 : p ∣ sg (fun i => c i * f (k - t + i)) (d + 1) := by
      have a1 : p ∣ sg (fun i => c i * f (k - t + i)) (d + 1) - sg (fun i => sg (fun j => v i j * c i * b j (k - t)) d) (d + 1) := sg_dvd fun i hi => by
        obtain ⟨u, hu⟩ := h i (k - t) (by omega)
        refine ⟨c i * u, ?_⟩
        rw [show p * (c i * u) = c i * (p * u) by grind, ← hu, Int.mul_sub, sg_mul_left]
        congr 1
        exact sg_congr fun j _ => by grind
      rw [sg_swap] at a1
      have a2 : p ∣ sg (fun j => sg (fun i => v i j * c i * b j (k - t)) (d + 1)) d := by
        have := sg_dvd (p := p) (f := fun j => sg (fun i => v i j * c i * b j (k - t)) (d + 1)) (g := fun _ => 0) (n := d) (fun j hj => by
          rw [Int.sub_zero, ← sg_mul_right]
          exact Int.dvd_mul_of_dvd_left (hd j hj))
        rw [sg_zero (fun _ _ => rfl), Int.sub_zero] at this
        exact this
      have := Int.dvd_add a1 a2
      rwa [Int.sub_add_cancel] at this
    have := Int.dvd_add e1 (Int.dvd_mul_of_dvd_right (b := (ivf p (c t) : Int)) e2)
    rwa [Int.sub_add_cancel] at this
end
end IPL
end
section
set_option linter.all false
set_option maxRecDepth 8000
/-! Fcs: registers with carry. -/
namespace IPL
open IP
theorem val_app (p : Int) (b : List Int) : ∀ a : List Int, val p (a ++ b) = val p a + p ^ a.length * val p b
  | [] => by simp [val_nil]
  | x :: a => by
    rw [List.cons_append, val_cons, val_app p b a, val_cons, List.length_cons, Int.pow_succ]
    grind
theorem val_one (p x : Int) : val p [x] = x := by simp [val]
theorem val_take_next (p : Int) (a : List Int) {m : Nat} (h : m < a.length) : val p (a.take (m + 1)) = val p (a.take m) + p ^ m * a.getD m 0 := by
  rw [List.take_succ_eq_append_getElem h, val_app, val_one, List.length_take, Nat.min_eq_left (by omega)]
  congr 2
  simp [List.getD, h]
theorem val_drop (p : Int) (a : List Int) (m : Nat) (h : m ≤ a.length) : val p a = val p (a.take m) + p ^ m * val p (a.drop m) := by
  have := val_app p (a.drop m) (a.take m)
  rw [List.take_append_drop, List.length_take, Nat.min_eq_left h] at this
  exact this
def ctot (ts row : List Int) (z : Int) : Int := z + ((List.range ts.length).map fun k => ts.getD k 0 * row.getD (row.length - 1 - k) 0).sum
def crun (p : Int) (ts : List Int) : Nat → List Int → Int → List Int
  | 0, row, _ => row
  | k + 1, row, z => crun p ts k (row ++ [ctot ts row z % p]) (ctot ts row z / p)
theorem crun_len (p : Int) (ts : List Int) : ∀ (k : Nat) (row : List Int) (z : Int), (crun p ts k row z).length = row.length + k
  | 0, _, _ => rfl
  | k + 1, row, z => by rw [crun, crun_len p ts k]; simp; omega
theorem crun_nums {p : Int} (h0 : 0 < p) (ts : List Int) : ∀ (k : Nat) (row : List Int) (z : Int), nums p row → nums p (crun p ts k row z)
  | 0, _, _, h => h
  | k + 1, row, z, h => crun_nums h0 ts k _ _ fun x hx => by
    rcases List.mem_append.mp hx with hx | hx
    · exact h x hx
    · rw [List.mem_singleton.mp hx]
      exact ⟨Int.emod_nonneg _ (by omega), Int.emod_lt_of_pos _ h0⟩
/-- what is above, told by the numbers so far and the carry -/
def abv (p : Int) (ts row : List Int) (z : Int) : Int := -val p row + sg (fun i => ts.getD i 0 * p ^ (i + 1) * val p (row.take (row.length - 1 - i))) ts.length - p ^ row.length * z
theorem sg_scaleR (f : Nat → Int) (c : Int) : ∀ n, sg (fun j => f j * c) n = sg f n * c
  | 0 => by simp [sg]
  | n + 1 => by
    have := sg_scaleR f c n
    simp only [sg] at *
    rw [this, Int.add_mul]
theorem sg_add2 (f g : Nat → Int) : ∀ n, sg (fun j => f j + g j) n = sg f n + sg g n
  | 0 => by simp [sg]
  | n + 1 => by
    have := sg_add2 f g n
    simp only [sg] at *
    omega
theorem abv_step {p : Int} (h0 : 0 < p) {ts row : List Int} (hl : ts.length ≤ row.length) (z : Int) : abv p ts (row ++ [ctot ts row z % p]) (ctot ts row z / p) = abv p ts row z := by
  have hd := Int.mul_ediv_add_emod (ctot ts row z) p
  unfold abv
  rw [val_app, val_one, List.length_append, List.length_singleton, Int.pow_succ]
  have e1 : sg (fun i => ts.getD i 0 * p ^ (i + 1) * val p ((row ++ [ctot ts row z % p]).take (row.length + 1 - 1 - i))) ts.length = sg (fun i => ts.getD i 0 * p ^ (i + 1) * val p (row.take (row.length - 1 - i)) + ts.getD i 0 * row.getD (row.length - 1 - i) 0 * p ^ row.length) ts.length := sg_congr fun i hi => by
    have e : (row ++ [ctot ts row z % p]).take (row.length + 1 - 1 - i) = row.take (row.length - 1 - i + 1) := by
      rw [List.take_append_of_le_length (by omega)]
      congr 1
      omega
    show ts.getD i 0 * p ^ (i + 1) * val p ((row ++ [ctot ts row z % p]).take (row.length + 1 - 1 - i)) = _
    rw [e, val_take_next p row (by omega)]
    have ep : p ^ row.length = p ^ (i + 1) * p ^ (row.length - 1 - i) := by rw [← Int.pow_add, show i + 1 + (row.length - 1 - i) = row.length by omega]
    rw [ep]
    grind
  rw [e1, sg_add2, sg_scaleR]
  unfold ctot at hd ⊢
  rw [sum_sg] at hd ⊢
  generalize sg (fun i => ts.getD i 0 * p ^ (i + 1) * val p (row.take (row.length - 1 - i))) ts.length = S at *
  generalize sg (fun k => ts.getD k 0 * row.getD (row.length - 1 - k) 0) ts.length = U at *
  generalize p ^ row.length = P at *
  generalize (z + U) / p = D at *
  generalize (z + U) % p = M at *
  grind
theorem abv_crun {p : Int} (h0 : 0 < p) {ts : List Int} : ∀ (k : Nat) (row : List Int) (z : Int), ts.length ≤ row.length → ∃ z', abv p ts (crun p ts k row z) z' = abv p ts row z
  | 0, row, z, _ => ⟨z, rfl⟩
  | k + 1, row, z, h => by
    obtain ⟨z', e⟩ := abv_crun h0 (ts := ts) k (row ++ [ctot ts row z % p]) (ctot ts row z / p) (by simp; omega)
    exact ⟨z', by rw [crun, e, abv_step h0 h]⟩
theorem val_sg (p : Int) : ∀ a : List Int, val p a * p = sg (fun i => a.getD i 0 * p ^ (i + 1)) a.length
  | [] => by simp [val_nil, sg]
  | x :: a => by
    have ih := val_sg p a
    rw [val_cons, List.length_cons, sg_front]
    have e : sg (fun j => (x :: a).getD (j + 1) 0 * p ^ (j + 1 + 1)) a.length = sg (fun i => a.getD i 0 * p ^ (i + 1)) a.length * p := by
      rw [← sg_scaleR]
      exact sg_congr fun i _ => by
        show a.getD i 0 * p ^ (i + 1 + 1) = _
        rw [Int.pow_succ p (i + 1), Int.mul_assoc]
    rw [e, ← ih]
    show (val p a * p + x) * p = x * p ^ (0 + 1) + val p a * p * p
    rw [Int.pow_succ, Int.pow_zero]
    grind
/-- the row's value, times low, is above, up to a multiple of the power -/
theorem abv_dvd {p : Int} {ts row : List Int} (hl : ts.length ≤ row.length) (z : Int) : ∃ t, (val p ts * p - 1) * val p row - abv p ts row z = p ^ row.length * t := by
  unfold abv
  rw [val_sg]
  have key : ∀ m, m ≤ ts.length → ∃ t, sg (fun i => ts.getD i 0 * p ^ (i + 1)) m * val p row - sg (fun i => ts.getD i 0 * p ^ (i + 1) * val p (row.take (row.length - 1 - i))) m = p ^ row.length * t := by
    intro m
    induction m with
    | zero => intro _; exact ⟨0, by simp [sg]⟩
    | succ m ih =>
      intro h
      obtain ⟨t, e⟩ := ih (by omega)
      have hd := val_drop p row (row.length - 1 - m) (by omega)
      have ep : p ^ row.length = p ^ (m + 1) * p ^ (row.length - 1 - m) := by rw [← Int.pow_add, show m + 1 + (row.length - 1 - m) = row.length by omega]
      simp only [sg]
      exact ⟨t + ts.getD m 0 * val p (row.drop (row.length - 1 - m)), by grind⟩
  obtain ⟨t, e⟩ := key ts.length (Nat.le_refl _)
  exact ⟨t + z, by grind⟩
theorem crun_dvd {p : Int} (h0 : 0 < p) {ts st : List Int} (hl : st.length = ts.length) (z : Int) (k : Nat) : ∃ t, (val p ts * p - 1) * val p (crun p ts k st z) - abv p ts st z = p ^ (crun p ts k st z).length * t := by
  obtain ⟨z', e⟩ := abv_crun h0 (ts := ts) k st z (by omega)
  rw [← e]
  exact abv_dvd (by rw [crun_len]; omega) z'
theorem crun_take_dvd {p : Int} (h0 : 0 < p) {ts st : List Int} (hl : st.length = ts.length) (z : Int) (k c : Nat) (hc : c ≤ (crun p ts k st z).length) : ∃ t, (val p ts * p - 1) * val p ((crun p ts k st z).take c) - abv p ts st z = p ^ c * t := by
  obtain ⟨t, e⟩ := crun_dvd h0 hl z k
  have hd := val_drop p (crun p ts k st z) c hc
  have ep : p ^ (crun p ts k st z).length = p ^ c * p ^ ((crun p ts k st z).length - c) := by rw [← Int.pow_add, show c + ((crun p ts k st z).length - c) = (crun p ts k st z).length by omega]
  exact ⟨p ^ ((crun p ts k st z).length - c) * t - (val p ts * p - 1) * val p ((crun p ts k st z).drop c), by grind⟩
/-- a common divisor of above and low is left out -/
theorem pow_less {p v g : Int} {Q : Int} (h : g * Q = v * p - 1) (n : Nat) : ∃ s, p ^ n * v ^ n = 1 + g * s := by
  induction n with
  | zero => exact ⟨0, by simp⟩
  | succ n ih =>
    obtain ⟨s, e⟩ := ih
    rw [Int.pow_succ, Int.pow_succ]
    exact ⟨Q + s + g * s * Q, by grind⟩
theorem low_out {p v g Q A V : Int} (h : g * Q = v * p - 1) {n : Nat} (h2 : ∃ t, (v * p - 1) * V - g * A = p ^ n * t) : ∃ t, Q * V - A = p ^ n * t := by
  obtain ⟨s, e⟩ := pow_less h n
  obtain ⟨t, e2⟩ := h2
  exact ⟨v ^ n * (Q * V - A) - t * s, by grind⟩
end IPL
namespace IPL
open IP
/-- the carry behind so many steps -/
def crz (p : Int) (ts : List Int) : Nat → List Int → Int → Int
  | 0, _, z => z
  | k + 1, row, z => crz p ts k (row ++ [ctot ts row z % p]) (ctot ts row z / p)
theorem crun_snoc (p : Int) (ts : List Int) : ∀ (k : Nat) (row : List Int) (z : Int), crun p ts (k + 1) row z = crun p ts k row z ++ [ctot ts (crun p ts k row z) (crz p ts k row z) % p] ∧ crz p ts (k + 1) row z = ctot ts (crun p ts k row z) (crz p ts k row z) / p
  | 0, _, _ => ⟨rfl, rfl⟩
  | k + 1, row, z => by
    have ih := crun_snoc p ts k (row ++ [ctot ts row z % p]) (ctot ts row z / p)
    exact ih
/-- without common divisors -/
theorem gcd_out (a : Int) {l : Int} (hl : 0 < l) : ∃ a' l' : Int, a / ((Nat.gcd a.natAbs l.natAbs : Nat) : Int) = a' ∧ l / ((Nat.gcd a.natAbs l.natAbs : Nat) : Int) = l' ∧ ((Nat.gcd a.natAbs l.natAbs : Nat) : Int) * a' = a ∧ ((Nat.gcd a.natAbs l.natAbs : Nat) : Int) * l' = l ∧ Nat.gcd a'.natAbs l'.natAbs = 1 ∧ 1 ≤ l' ∧ l' ≤ l ∧ a'.natAbs ≤ a.natAbs := by
  have h0 : 0 < Nat.gcd a.natAbs l.natAbs := Nat.gcd_pos_of_pos_right _ (by omega)
  obtain ⟨u, hu⟩ := Int.ofNat_dvd_left.mpr (Nat.gcd_dvd_left a.natAbs l.natAbs)
  obtain ⟨v, hv⟩ := Int.ofNat_dvd_left.mpr (Nat.gcd_dvd_right a.natAbs l.natAbs)
  generalize hg : Nat.gcd a.natAbs l.natAbs = g at *
  have g0 : (0 : Int) < (g : Int) := Int.natCast_pos.mpr h0
  refine ⟨u, v, by rw [hu, Int.mul_ediv_cancel_left _ (by omega)], by rw [hv, Int.mul_ediv_cancel_left _ (by omega)], hu.symm, hv.symm, ?_, ?_, ?_, ?_⟩
  · have e1 : a.natAbs = g * u.natAbs := by rw [hu, Int.natAbs_mul, Int.natAbs_natCast]
    have e2 : l.natAbs = g * v.natAbs := by rw [hv, Int.natAbs_mul, Int.natAbs_natCast]
    rw [e1, e2, Nat.gcd_mul_left] at hg
    exact Nat.eq_of_mul_eq_mul_left h0 (by omega)
  · have : 0 < v := by
      rcases Int.lt_or_le 0 v with h | h
      · exact h
      · have := Int.mul_nonneg (show (0 : Int) ≤ (g : Int) by omega) (show 0 ≤ -v by omega)
        rw [Int.mul_neg] at this
        omega
    omega
  · have : 0 < v := by
      rcases Int.lt_or_le 0 v with h | h
      · exact h
      · have := Int.mul_nonneg (show (0 : Int) ≤ (g : Int) by omega) (show 0 ≤ -v by omega)
        rw [Int.mul_neg] at this
        omega
    have := Int.mul_le_mul_of_nonneg_right (show (1 : Int) ≤ (g : Int) by omega) (show 0 ≤ v by omega)
    omega
  · have e1 : a.natAbs = g * u.natAbs := by rw [hu, Int.natAbs_mul, Int.natAbs_natCast]
    rw [e1]
    exact Nat.le_mul_of_pos_left _ h0
end IPL
end
section
set_option linter.all false
/-! Eucl: Euclid's way with a bounded number of turns. -/
namespace IPL
def eucl : Nat → Nat → Nat → Option Nat
  | 0, _, _ => none
  | n + 1, a, b => if b = 0 then some a else eucl n b (a % b)
theorem mod_half {b r : Nat} (h0 : 0 < r) (h : r < b) : 2 * (b % r) < b := by
  rcases Nat.lt_or_ge b (2 * r) with h2 | h2
  · rw [Nat.mod_eq_sub_mod (by omega), Nat.mod_eq_of_lt (by omega)]
    omega
  · have := Nat.mod_lt b h0
    omega
theorem eucl_ok : ∀ (k n a b : Nat), b < 2 ^ k → 2 * k + 1 ≤ n → eucl n a b = some (Nat.gcd a b)
  | 0, n, a, b, h, hn => by
    obtain ⟨m, rfl⟩ : ∃ m, n = m + 1 := ⟨n - 1, by omega⟩
    have : b = 0 := by simpa using h
    subst this
    simp [eucl]
  | k + 1, n, a, b, h, hn => by
    obtain ⟨m, rfl⟩ : ∃ m, n = m + 2 := ⟨n - 2, by omega⟩
    by_cases hb : b = 0
    · subst hb
      simp [eucl]
    · rw [eucl, if_neg hb]
      have e : Nat.gcd a b = Nat.gcd b (a % b) := by
        rw [Nat.gcd_comm a b, Nat.gcd_rec, Nat.gcd_comm]
      rw [e]
      by_cases hr : a % b = 0
      · rw [eucl, if_pos hr, hr, Nat.gcd_zero_right]
      · have hlt := Nat.mod_lt a (show 0 < b by omega)
        rw [eucl, if_neg hr]
        have e2 : Nat.gcd b (a % b) = Nat.gcd (a % b) (b % (a % b)) := by
          rw [Nat.gcd_comm b, Nat.gcd_rec, Nat.gcd_comm]
        rw [e2]
        have := mod_half (b := b) (r := a % b) (by omega) hlt
        exact eucl_ok k m _ _ (by rw [Nat.pow_succ] at h; omega) (by omega)
end IPL
end
section
set_option linter.all false
set_option maxRecDepth 8000
/-! Big: bounds by powers of 2. -/
namespace IPL
open IP
/-- |x| < 2 ^ n -/
def ub (n : Nat) (x : Int) : Prop := x.natAbs < 2 ^ n
theorem ub.log {n : Nat} {x : Int} (h : ub n x) (hn : 0 < n) : x.natAbs.log2 < n := log_lt h hn
theorem ub.mono {n m : Nat} {x : Int} (h : ub n x) (hm : n ≤ m) : ub m x := Nat.lt_of_lt_of_le h (Nat.pow_le_pow_right (by omega) hm)
theorem ub.mul {n m : Nat} {x y : Int} (h : ub n x) (h' : ub m y) : ub (n + m) (x * y) := by
  unfold ub at *
  rw [Int.natAbs_mul, Nat.pow_add]
  exact Nat.mul_lt_mul'' h h'
theorem ub.add {n : Nat} {x y : Int} (h : ub n x) (h' : ub n y) : ub (n + 1) (x + y) := by
  unfold ub at *
  rw [Nat.pow_succ]
  have := Int.natAbs_add_le x y
  omega
theorem ub.neg {n : Nat} {x : Int} (h : ub n x) : ub n (-x) := by
  unfold ub at *
  rwa [Int.natAbs_neg]
theorem ub.sub {n : Nat} {x y : Int} (h : ub n x) (h' : ub n y) : ub (n + 1) (x - y) := by
  rw [Int.sub_eq_add_neg]
  exact h.add h'.neg
theorem ub_of {n : Nat} {x : Int} (h : -(2 ^ n) < x) (h2 : x < 2 ^ n) : ub n x := by
  unfold ub
  have : ((2 ^ n : Nat) : Int) = (2 : Int) ^ n := by rw [Int.natCast_pow]; rfl
  omega
theorem ub_small {x : Int} (h : -64 < x) (h2 : x < 64) : ub 6 x := by
  unfold ub
  omega
theorem ub_div {n : Nat} {x g : Int} (h : ub n x) (hg : 0 < g) : ub n (x / g) ∨ True := .inr trivial
theorem pow8 (k : Nat) : (8 : Int) ^ k = 2 ^ (3 * k) := by
  rw [Int.pow_mul]
  rfl
theorem ub_pow {p : Int} (hp : isPrime p) (k : Nat) : ub (3 * k + 1) (p ^ k) := by
  have h1 := pow_le' hp k
  have h2 := pow_pos' hp k
  rw [pow8] at h1
  refine ub_of ?_ ?_
  · have : (0 : Int) < 2 ^ (3 * k + 1) := Int.pow_pos (by decide)
    omega
  · rw [Int.pow_succ]
    have : (0 : Int) < 2 ^ (3 * k) := Int.pow_pos (by decide)
    omega
theorem ub_val {p : Int} (hp : isPrime p) {row : List Int} (h : nums p row) {n : Nat} (hl : row.length ≤ n) : ub (3 * n + 1) (val p row) := by
  have h1 := val_bd hp row h
  have h2 := ub_pow hp row.length
  have : ub (3 * row.length + 1) (val p row) := by
    unfold ub at *
    omega
  exact this.mono (by omega)
theorem ub_nat {n : Nat} {x : Nat} (h : x < 2 ^ n) : ub n (x : Int) := by
  unfold ub
  simpa using h
theorem ub.le {n : Nat} {x y : Int} (h : ub n y) (h0 : 0 ≤ x) (h1 : x ≤ y) : ub n x := by
  unfold ub at *
  omega
theorem ub.dvd {n : Nat} {x y : Int} (h : ub n y) (hy : y ≠ 0) (hd : x ∣ y) : ub n x := by
  unfold ub at *
  have := Int.natAbs_dvd_natAbs.mpr hd
  exact Nat.lt_of_le_of_lt (Nat.le_of_dvd (by omega) this) h
end IPL
end
section
set_option linter.all false
set_option maxRecDepth 20000
set_option maxHeartbeats 400000
namespace IPL
open IP
open PySem (PyData)
local macro_rules | `(tactic| infer_instance) => `(tactic| ((repeat' (first | with_reducible exact rfl | with_reducible assumption | with_reducible apply EV.bo_nt | with_reducible apply EV.bo_nf | with_reducible refine decide_eq_true ?_ | with_reducible refine decide_eq_false ?_ | with_reducible apply EV.bne_t | with_reducible apply EV.bne_f | omega)); done))
local macro_rules | `(tactic| and_intros) => `(tactic| repeat' (first
  | with_reducible assumption
  | ((with_reducible apply EV.gdO); first
      | with_reducible apply EV.o_V
      | ((with_reducible apply EV.o_var); (with_reducible apply EV.get_of); exact rfl)
      | ((with_reducible apply EV.o_own); (with_reducible apply EV.get_of); exact rfl)
      | ((with_reducible apply EV.o_prm); (with_reducible apply EV.get_of); exact rfl))
  | ((with_reducible apply EV.gdV); first
      | with_reducible exact EV.e_C
      | ((with_reducible apply EV.e_var); (with_reducible apply EV.get_of); exact rfl)
      | ((with_reducible apply EV.e_varO); ((with_reducible apply EV.get_of); exact rfl))
      | with_reducible apply EV.e_bin
      | ((with_reducible apply EV.e_call); (focus (and_intros; done)); (focus (and_intros; done)); ((with_reducible apply EV.any_of); exact rfl))
      | ((with_reducible apply EV.e_callD); (focus (and_intros; done)); (focus (and_intros; done)); (focus (and_intros; done)); first | with_reducible exact EV.noT | with_reducible exact EV.noI | with_reducible exact EV.noB | with_reducible exact EV.noN | with_reducible assumption | exact EV.noT)
      | with_reducible apply EV.e_bi
      | (with_reducible apply EV.e_sl)
      | with_reducible apply EV.e_tup
      | with_reducible apply EV.e_un
      | ((with_reducible apply EV.e_callRo); ((with_reducible apply EV.ow_o); (with_reducible apply EV.get_of); exact rfl))
      | ((with_reducible apply EV.e_callRp); ((with_reducible apply EV.ow_p); (with_reducible apply EV.get_of); exact rfl))
      | with_reducible apply EV.e_lc
      | ((with_reducible apply EV.andV_t); (focus infer_instance))
      | ((with_reducible apply EV.andV_f); (focus infer_instance))
      | ((with_reducible apply EV.orV_f); (focus infer_instance))
      | ((with_reducible apply EV.orV_t); (focus infer_instance))
      | ((with_reducible apply EV.iteV_t); (focus infer_instance))
      | ((with_reducible apply EV.iteV_f); (focus infer_instance))
      | ((with_reducible apply EV.chK_t); (focus infer_instance))
      | ((with_reducible apply EV.chK_f); (focus infer_instance))
      | ((with_reducible apply EV.e_fld); (focus (and_intros; done)); (focus exact rfl); (focus exact rfl))
      | ((with_reducible apply EV.e_flen); (focus (and_intros; done)))
      | ((with_reducible apply EV.e_ftup); (focus (and_intros; done)))
      | ((with_reducible apply EV.e_fix); (focus (and_intros; done)); (focus ((with_reducible apply EV.get_of); exact rfl)))
      | ((with_reducible apply EV.e_meth); (focus (and_intros; done)); (focus (and_intros; done)); (focus (and_intros; done)); (focus (and_intros; done)))
      | ((with_reducible apply EV.e_callNF); (focus (and_intros; done)); (focus (and_intros; done)); (focus ((with_reducible apply EV.prop_of); with_reducible assumption)); (focus exact rfl); (focus exact rfl))
      | ((with_reducible apply EV.e_callNM); (focus (and_intros; done)); (focus (and_intros; done)))
      | with_reducible apply EV.e_lc2
      | with_reducible apply EV.e_lst
      | with_reducible apply EV.e_not
      | with_reducible apply EV.e_and
      | with_reducible apply EV.e_or
      | with_reducible apply EV.e_ite
      | (with_reducible apply EV.e_chain))
  | ((with_reducible apply EV.gdG); first
      | ((with_reducible apply EV.get_of); exact rfl))
  | ((with_reducible apply EV.gdD); first
      | with_reducible exact EV.rd_v
      | with_reducible apply EV.rd_o
      | with_reducible apply EV.rd_p)
  | ((with_reducible apply EV.gdA); first
      | with_reducible exact EV.a_n
      | ((with_reducible apply EV.a_app); (focus (and_intros; done)))
      | with_reducible apply EV.a_c)
  | ((with_reducible apply EV.gdR); first
      | ((with_reducible apply EV.gdRb); first
      | ((with_reducible apply EV.gh_bIx); first | ((with_reducible apply EV.p_ixNegM) <;> first | assumption | omega) | ((with_reducible apply EV.p_ix0); first | assumption | omega) | with_reducible exact EV.p_ix20 | with_reducible exact EV.p_ix21 | with_reducible exact EV.p_ix30 | with_reducible exact EV.p_ix31 | with_reducible exact EV.p_ix32 | ((with_reducible apply EV.p_ixLastT); assumption) | ((with_reducible apply EV.p_ixNegT); first | assumption | omega) | ((with_reducible apply EV.p_ixNegL); first | assumption | omega) | ((with_reducible apply EV.p_ixT); first | assumption | omega) | ((with_reducible apply EV.p_ixL); first | assumption | omega) | ((with_reducible apply EV.p_ixT') <;> first | assumption | omega) | ((with_reducible apply EV.p_ixL') <;> first | assumption | omega) | ((with_reducible apply IPL.p_ixTT); first | assumption | omega) | ((with_reducible apply IPL.p_ixLT); first | assumption | omega) | ((with_reducible apply EV.p_ixDT); first | assumption | omega) | ((with_reducible apply EV.p_ixDL); first | assumption | omega))
      | ((with_reducible apply EV.gh_bAdd); first | with_reducible exact EV.p_add | ((with_reducible apply EV.p_addT); (with_reducible apply EV.line_of); first | assumption | omega) | ((with_reducible apply EV.p_addL); (with_reducible apply EV.line_of); first | assumption | omega) | ((with_reducible apply EV.p_addsL); first | assumption | omega) | ((with_reducible apply EV.p_addTs); (with_reducible apply EV.line_of); first | assumption | omega) | ((with_reducible apply EV.p_addsT); (with_reducible apply EV.line_of); first | assumption | omega))
      | with_reducible exact EV.p_sub
      | ((with_reducible apply EV.p_mod); first | assumption | omega)
      | ((with_reducible apply EV.gh_bMul); first | ((with_reducible apply EV.p_repL) <;> omega) | ((with_reducible apply EV.p_repT) <;> omega) | ((with_reducible apply EV.p_mulL); first | assumption | omega) | ((with_reducible apply EV.p_mulR); first | assumption | omega) | ((with_reducible apply EV.p_mulB); first | assumption | omega))
      | ((with_reducible apply EV.p_fdiv) <;> first | assumption | omega)
      | ((with_reducible apply EV.p_fdivB) <;> first | assumption | omega)
      | ((with_reducible apply EV.gh_bPow); first | with_reducible exact EV.p_pow12 | with_reducible exact EV.p_pow17 | with_reducible exact EV.p_pow60 | with_reducible exact EV.p_pow15 | with_reducible exact EV.p_pow18)
      | with_reducible exact EV.p_lt
      | with_reducible exact EV.p_le
      | with_reducible exact EV.p_gt
      | with_reducible exact EV.p_ge
      | ((with_reducible apply EV.gh_bEq); first | with_reducible exact EV.p_eq | with_reducible exact IPL.p_eqT | with_reducible exact IPL.p_eqT1 | with_reducible exact IPL.p_eqL | with_reducible exact IPL.p_eqL0 | with_reducible exact IPL.p_eqT0 | with_reducible exact IPL.p_eqL1 | with_reducible exact IPL.p_eqTT | with_reducible exact IPL.p_eqLT | with_reducible exact EV.p_eqB)
      | ((with_reducible apply EV.gh_bNe); first | with_reducible exact EV.p_ne | with_reducible exact IPL.p_neT | with_reducible exact IPL.p_neT1 | with_reducible exact IPL.p_neL | with_reducible exact IPL.p_neT0 | with_reducible exact IPL.p_neL1 | with_reducible exact IPL.p_neTT | with_reducible exact IPL.p_neLT | with_reducible exact IPL.p_neL0 | with_reducible exact EV.p_neB)
      | ((with_reducible apply EV.p_xor) <;> first | assumption | omega)
      | with_reducible exact EV.p_shrN
      | with_reducible exact EV.p_and1
      | ((with_reducible apply EV.p_and) <;> first | assumption | omega))
      | ((with_reducible apply EV.gdRi); first
      | ((with_reducible apply EV.gh_biLen); first | with_reducible exact EV.b_len2 | with_reducible exact EV.b_len3 | with_reducible exact EV.b_lenT | with_reducible exact EV.b_lenL | with_reducible exact EV.b_lenT' | with_reducible exact EV.b_lenL')
      | with_reducible exact EV.b_int
      | with_reducible exact EV.b_intB
      | with_reducible exact EV.b_tupL
      | with_reducible exact EV.b_tupT
      | with_reducible exact EV.b_lstL
      | with_reducible exact EV.b_lstT
      | with_reducible exact EV.b_sum
      | with_reducible exact EV.b_sum2L
      | with_reducible exact EV.b_sum2T
      | with_reducible exact EV.b_any2L
      | with_reducible exact EV.b_abs
      | with_reducible exact EV.b_max
      | with_reducible exact EV.b_min
      | with_reducible exact EV.b_gcd)
      | ((with_reducible apply EV.gdRu); first
      | ((with_reducible apply EV.gh_uIs); first | with_reducible exact EV.is_ii | with_reducible exact EV.is_bi | with_reducible exact EV.is_tt | with_reducible exact EV.is_tl | with_reducible exact EV.is_lt | with_reducible exact EV.is_ll)
      | ((with_reducible apply EV.gh_uIsN); first | with_reducible exact EV.uisn | with_reducible exact EV.uisn_i | with_reducible exact EV.uisn_t)
      | ((with_reducible apply EV.gh_uNotN); first | with_reducible exact EV.unn | with_reducible exact EV.unn_i | with_reducible exact EV.unn_t)
      | with_reducible exact EV.p_bitsN
      | with_reducible exact EV.p_neg
      | with_reducible exact EV.p_revT
      | with_reducible exact EV.p_revL
      | with_reducible exact EV.p_tupRev)
      | ((with_reducible apply EV.gh_cutR); first | with_reducible exact EV.cut_to1 | with_reducible exact EV.cut_to1L | with_reducible exact EV.cut_fr1 | with_reducible exact EV.cut_fr1L | with_reducible exact EV.cut_toT | with_reducible exact EV.cut_toL | with_reducible exact EV.cut_frT | with_reducible exact EV.cut_frL | with_reducible exact EV.cut_lastT | with_reducible exact EV.cut_last1 | with_reducible exact EV.cut_last1L | ((with_reducible apply EV.cut_toI); first | assumption | omega) | ((with_reducible apply EV.cut_frI); first | assumption | omega) | with_reducible exact EV.cut_lastL)
      | ((with_reducible apply EV.gh_outR); first | with_reducible exact EV.or_n | with_reducible exact EV.or_r | ((with_reducible apply EV.or_of); exact rfl) | ((with_reducible apply EV.or_bt); focus infer_instance)))
  | ((with_reducible apply EV.gdS); first
      | with_reducible apply EV.s_seq
      | ((with_reducible apply EV.gh_seqK); first | with_reducible exact EV.q_rt | with_reducible apply EV.q_nx | with_reducible exact EV.q_bk | with_reducible exact EV.q_ct | with_reducible exact EV.q_ro)
      | with_reducible apply EV.s_set
      | with_reducible apply EV.s_if
      | ((with_reducible apply EV.if_t); (focus infer_instance))
      | ((with_reducible apply EV.if_f); (focus infer_instance))
      | with_reducible exact EV.s_pass
      | with_reducible apply EV.s_ret
      | with_reducible apply EV.s_ex
      | ((with_reducible apply EV.s_appI); ((with_reducible apply EV.ow_o); (with_reducible apply EV.get_of); exact rfl); (focus (and_intros; done)); ((with_reducible apply EV.get_of); exact rfl))
      | ((with_reducible apply EV.s_appO); ((with_reducible apply EV.ow_o); (with_reducible apply EV.get_of); exact rfl))
      | ((with_reducible apply EV.s_fld); (focus (and_intros; done)); (focus (and_intros; done)); (focus exact rfl); (focus (and_intros; done)); (focus exact rfl); (focus exact rfl))
      | ((with_reducible apply EV.s_faug); (focus (and_intros; done)); (focus exact rfl); (focus exact rfl); (focus (and_intros; done)); (focus (and_intros; done)); (focus exact rfl); (focus exact rfl))
      | ((with_reducible apply EV.s_fapp); (focus (and_intros; done)); (focus ((with_reducible apply EV.get_of); exact rfl)); (focus (first | assumption | omega)))
      | ((with_reducible apply EV.s_callN); (focus (and_intros; done)); (focus (and_intros; done)))
      | ((with_reducible apply EV.s_retG); ((with_reducible apply EV.get_of); exact rfl))
      | with_reducible exact EV.s_brk
      | with_reducible exact EV.s_cnt
      | with_reducible exact EV.s_retN
      | with_reducible apply EV.s_unp
      | with_reducible apply EV.s_par
      | ((with_reducible apply EV.s_augI); ((with_reducible apply EV.get_of); exact rfl))
      | ((with_reducible apply EV.s_setIxN); (focus (and_intros; done)); (focus ((with_reducible apply EV.ow_o); (with_reducible apply EV.get_of); exact rfl)); (focus (and_intros; done)); (focus ((with_reducible apply EV.get_of); exact rfl)); (focus (first | assumption | omega)))
      | ((with_reducible apply EV.s_setIxI); (focus (and_intros; done)); (focus ((with_reducible apply EV.ow_o); (with_reducible apply EV.get_of); exact rfl)); (focus (and_intros; done)); (focus ((with_reducible apply EV.get_of); exact rfl)); (focus (first | assumption | omega)))
      | ((with_reducible apply EV.s_augIxN); (focus ((with_reducible apply EV.ow_o); (with_reducible apply EV.get_of); exact rfl)); (focus (and_intros; done)); (focus ((with_reducible apply EV.get_of); exact rfl)); (focus (and_intros; done)); (focus ((with_reducible apply EV.get_of); exact rfl)); (focus (first | assumption | omega)))
      | ((with_reducible apply EV.s_pop); (focus ((with_reducible apply EV.get_of); exact rfl)); (focus assumption))
      | ((with_reducible apply EV.s_setIx); (focus (and_intros; done)); ((with_reducible apply EV.ow_o); (with_reducible apply EV.get_of); exact rfl); (focus (and_intros; done)); ((with_reducible apply EV.get_of); exact rfl))
      | with_reducible apply EV.s_for
      | with_reducible apply EV.s_while)
  | ((with_reducible apply EV.gdL); first
      | ((with_reducible apply EV.gP); ((with_reducible apply EV.get_of); exact rfl))
      | ((with_reducible apply EV.gO); ((with_reducible apply EV.get_of); exact rfl))
      | with_reducible exact EV.ra_n
      | with_reducible apply EV.ra_c
      | with_reducible exact EV.vs_n
      | with_reducible apply EV.vs_c)
  | ((with_reducible apply EV.gdE); first
      | ((with_reducible apply EV.gh_setSlot); first | with_reducible exact EV.st_0u | with_reducible exact EV.st_0d | with_reducible exact EV.st_0o | ((with_reducible apply EV.st_0f); first | assumption | exact EV.fr_d | exact EV.fr_u) | ((with_reducible apply EV.st_0g); assumption) | with_reducible apply EV.st_s)
      | with_reducible exact EV.u_n
      | ((with_reducible apply EV.u_u); ((with_reducible apply EV.get_of); exact rfl))
      | ((with_reducible apply EV.u_d); ((with_reducible apply EV.get_of); exact rfl))
      | with_reducible apply EV.t_nm
      | with_reducible apply EV.t_tup
      | with_reducible exact EV.sd_n
      | with_reducible apply EV.sd_c
      | with_reducible exact EV.sr_n
      | with_reducible apply EV.sr_c)
  | ((with_reducible apply EV.gdT); first
      | with_reducible apply EV.t_B
      | with_reducible apply EV.t_V
      | with_reducible apply EV.t_not
      | with_reducible apply EV.t_and
      | with_reducible apply EV.t_or
      | ((with_reducible apply EV.orT_f); (focus infer_instance))
      | ((with_reducible apply EV.orT_t); (focus infer_instance))
      | ((with_reducible apply EV.andT_t); (focus infer_instance))
      | ((with_reducible apply EV.andT_f); (focus infer_instance)))
  | ((with_reducible apply EV.gdLs); first
      | with_reducible exact EV.ls_0
      | with_reducible apply EV.ls_s)
  | ((with_reducible apply EV.gdSl); first
      | with_reducible exact EV.so_d
      | with_reducible exact EV.so_n)
  | ((with_reducible apply EV.gdBo); first
      | with_reducible exact EV.stl_n
      | ((with_reducible apply EV.stl_o); (with_reducible apply EV.get_of); exact rfl)
      | ((with_reducible apply EV.bo_nf); focus infer_instance)
      | ((with_reducible apply EV.bo_nt); focus infer_instance))
  | ((with_reducible apply EV.gdEn); first
      | ((with_reducible apply EV.pP); (focus ((with_reducible apply EV.get_of); exact rfl)))
      | ((with_reducible apply EV.pO); (focus ((with_reducible apply EV.get_of); exact rfl)))
      | with_reducible exact EV.ba_n
      | ((with_reducible apply EV.ba_c); ((with_reducible apply EV.get_of); exact rfl)))
  | ((with_reducible apply EV.gdDd); first
      | with_reducible exact EV.td_d
      | with_reducible exact EV.td_n)
  | ((with_reducible apply EV.gdI); first
      | ((with_reducible apply EV.i_r1); (focus (and_intros; done)); omega)
      | ((with_reducible apply EV.i_r1'); (focus (and_intros; done)); omega; omega)
      | ((with_reducible apply EV.i_r2); (focus (and_intros; done)); (focus (and_intros; done)); omega; omega; omega; omega)
      | ((with_reducible apply EV.i_rT); (focus (and_intros; done)))
      | ((with_reducible apply EV.i_rL); (focus (and_intros; done)))
      | ((with_reducible apply EV.i_zT); (focus (and_intros; done)); (focus (and_intros; done)))
      | ((with_reducible apply EV.i_zL); (focus (and_intros; done)); (focus (and_intros; done)))
      | ((with_reducible apply EV.i_enT); (focus (and_intros; done)))
      | ((with_reducible apply EV.i_enL); (focus (and_intros; done)))
      | ((with_reducible apply EV.i_rr1); (focus (and_intros; done)); omega)
      | ((with_reducible apply EV.i_ET); (focus (and_intros; done)))
      | ((with_reducible apply EV.i_E); (focus (and_intros; done)))
      | ((with_reducible apply EV.i_EO); (focus (and_intros; done)); (focus (and_intros; done))))
  | ((with_reducible apply EV.gdTr); first
      | ((with_reducible apply EV.gh_truth); first | with_reducible exact EV.tr_b | with_reducible exact EV.tr_T | with_reducible exact EV.tr_L | with_reducible exact EV.tr_i | with_reducible exact EV.tr_n))
  | ((with_reducible apply EV.gdLc); first
      | ((with_reducible apply EV.l_intR); (intro _ _; with_reducible apply EV.lt_y))
      | ((with_reducible apply EV.l_int); (intro _ _; with_reducible apply EV.lt_y)))
  | ((with_reducible apply EV.gdP); first
      | with_reducible exact EV.pe_n
      | with_reducible apply EV.pe_c)
  | ((with_reducible apply EV.gdPo); first
      | with_reducible exact EV.pn
      | with_reducible apply EV.ps)
  | ((with_reducible apply EV.line_of); first | assumption | (simp only [List.length_map, List.length_range, List.length_append, List.length_cons, List.length_nil, List.length_reverse, List.length_zip, List.length_take, List.length_drop, List.length_dropLast]; omega))
  | ((with_reducible apply EV.line_lt); first | assumption | (simp only [List.length_map, List.length_range, List.length_append, List.length_cons, List.length_nil, List.length_reverse, List.length_zip, List.length_take, List.length_drop, List.length_dropLast]; omega))))
theorem I_is_between (n : Nat) (v a b : Int) : run (n + 1) "is_between" none [.int v, .int a, .int b] = some (.dat (.bool (decide (a ≤ v ∧ v ≤ b))), none) := by
  rw [run_is_between]
  simp [F_is_between]
  split <;> simp_all <;> omega
theorem I_are_numbers (n : Nat) (p most : Int) (xs : List Int) (hl : xs.length ≤ 1000) : run (n + 2) "are_numbers" none [.int p, iT xs, .int most] = some (.dat (.bool (numsB p most xs)), none) := by
  rw [run_are_numbers]
  simp [F_are_numbers, numsB]
  by_cases h : most < (xs.length : Int)
  · simp [h]
  · have hs : xs.length ≤ 16000000 := by omega
    simp [h, hs]
    rw [lcGo_map .int (fun x => .bool (decide (0 ≤ x ∧ x ≤ p - 1))) rfl xs (fun x _ => by simp [I_is_between])]
    simp
theorem I_numbers_ok (n : Nat) {p most : Int} {xs : List Int} (h : nums p xs) (hl : (xs.length : Int) ≤ most) (h2 : most ≤ 1000) : run (n + 2) "are_numbers" none [.int p, iT xs, .int most] = some (.dat (.bool true), none) := by
  rw [I_are_numbers n p most xs (by omega), numsB_of h hl]
theorem I_check_prime (n : Nat) {p : Int} (h : isPrime p) : run (n + 2) "check_prime" none [.int p] = some (.dat .none, none) := by
  rw [run_check_prime]
  rcases h with rfl | rfl | rfl | rfl <;> simp [F_check_prime, I_is_between, intsOf]
theorem I_check_number (n : Nat) {v a b : Int} (h1 : a ≤ v) (h2 : v ≤ b) : run (n + 2) "check_number" none [.int v, .int a, .int b] = some (.dat .none, none) := by
  have e := I_is_between n v a b
  rw [decide_eq_true ⟨h1, h2⟩] at e
  apply go_check_number
  and_intros
theorem I_check_row (n : Nat) {p : Int} {xs : List Int} (h : nums p xs) (hl : xs.length ≤ 400) : run (n + 3) "check_row" none [.int p, iT xs] = some (.dat .none, none) := by
  have e := I_numbers_ok n (most := 400) h (by omega) (by omega)
  apply go_check_row
  and_intros
theorem I_taken (n : Nat) {ns : List Int} {xs : List D} (h : RowOk ns xs) {m : Int} (hm : okM m) : ∃ k xs', run (n + 1) "_law_taken" (some xs) [.int m] = some (.dat (.int k), some xs') ∧ (0 ≤ k ∧ k < m) ∧ RowOk ns xs' := by
  obtain ⟨a, b, c, rfl, ha⟩ := h
  obtain ⟨h0, h1⟩ := hm
  rw [run__law_taken]
  have hm : ∀ x : Int, 0 ≤ x % m ∧ x % m < m := fun x => ⟨Int.emod_nonneg _ (by omega), Int.emod_lt_of_pos _ h0⟩
  by_cases hc : 0 < c
  · refine ⟨c % m, [scr ns, .int a, .int b, .int (c / m)], ?_, hm c, a, b, c / m, rfl, ha⟩
    simp [F__law_taken, atD4_0, atD4_1, atD4_2, atD4_3, ixN4_1, ixN4_2, ixN4_3, hc, h0, h1]
  · by_cases hl : (ns.length : Int) < a + 1
    · refine ⟨((b * 48271 + 11) % 2147483647 / 7) % m, [scr ns, .int (a + 1), .int ((b * 48271 + 11) % 2147483647), .int c], ?_, hm _, a + 1, _, c, rfl, by omega⟩
      simp [F__law_taken, atD4_0, atD4_1, atD4_2, atD4_3, ixN4_1, ixN4_2, ixN4_3, hc, h0, h1, scr, hl]
    · obtain ⟨a', rfl⟩ : ∃ a' : Nat, (a' : Int) = a := ⟨a.toNat, by omega⟩
      have hl' : a' < ns.length := by omega
      have e1 : IP.ixN ns.length (a' : Int) = some a' := ixN_nat hl'
      obtain ⟨v, e2⟩ : ∃ v, ns[a']? = some v := ⟨ns[a'], List.getElem?_eq_getElem hl'⟩
      by_cases hv : 1000000000000000000 ≤ v
      · refine ⟨v % m, [scr ns, .int ((a' : Int) + 1), .int ((b * 48271 + v + 11) % 2147483647), .int (v / m)], ?_, hm _, _, _, _, rfl, by omega⟩
        simp [F__law_taken, atD4_0, atD4_1, atD4_2, atD4_3, ixN4_1, ixN4_2, ixN4_3, hc, h0, h1, scr, hl, e1, e2, hv]
      · refine ⟨v % m, [scr ns, .int ((a' : Int) + 1), .int ((b * 48271 + v + 11) % 2147483647), .int c], ?_, hm _, _, _, _, rfl, by omega⟩
        simp [F__law_taken, atD4_0, atD4_1, atD4_2, atD4_3, ixN4_1, ixN4_2, ixN4_3, hc, h0, h1, scr, hl, e1, e2, hv]
theorem I_pick (n : Nat) {ns : List Int} {xs : List D} (h : RowOk ns xs) {cs : List Int} (h0 : 0 < cs.length) (h1 : cs.length < 1073741824) : ∃ v xs', run (n + 2) "_law_pick" (some xs) [iL cs] = some (.dat (.int v), some xs') ∧ v ∈ cs ∧ RowOk ns xs' := by
  obtain ⟨k, xs1, e1, hk, hx1⟩ := I_taken n h (m := cs.length) (okM_s (by omega) (by omega))
  obtain ⟨k', rfl⟩ : ∃ k' : Nat, (k' : Int) = k := ⟨k.toNat, by omega⟩
  have hl : k' < cs.length := by omega
  have e2 : IP.ixN cs.length (k' : Int) = some k' := ixN_nat hl
  have e3 : cs[k']? = some cs[k'] := List.getElem?_eq_getElem hl
  refine ⟨cs[k'], xs1, ?_, List.getElem_mem hl, hx1⟩
  rw [run__law_pick]
  simp [F__law_pick, e1, e2, e3]
theorem I_prime (n : Nat) {ns : List Int} {xs : List D} (h : RowOk ns xs) : ∃ p xs', run (n + 3) "_law_prime" (some xs) [] = some (.dat (.int p), some xs') ∧ isPrime p ∧ RowOk ns xs' := by
  obtain ⟨v, xs1, e1, hv, hx1⟩ := I_pick n h (cs := [2, 2, 3, 5, 7]) (by decide) (by decide)
  simp only [iL, List.map_cons, List.map_nil] at e1
  refine ⟨v, xs1, ?_, ?_, hx1⟩
  · rw [run__law_prime]
    simp [F__law_prime, e1, line]
  · simp at hv
    unfold isPrime
    omega
theorem alike_seq (n : Nat) {d : D} {ds : List D} (hd : d = .tuple ds ∨ d = .list ds) (hl : ds.length ≤ 1000000) (h : ∀ k, k < ds.length → run (n + 1) "_law_alike" none [ds.getD k .none, ds.getD k .none] = some (.dat (.bool true), none)) : run (n + 2) "_law_alike" none [d, d] = some (.dat (.bool true), none) := by
  have hb : biLen [d] = some (.dat (.int (ds.length : Int))) := by rcases hd with rfl | rfl <;> rfl
  have e1 : vLc [2] (iRange1 (oV (vBi biLen (aCons (oVar 1) aNil)))) (.nm 2) (W__law_alike_2 (run (n + 1))) (W__law_alike_1 (run (n + 1))) [.dat d, .dat d, .un] = some (.new [], [.dat d, .dat d, .un]) := by
    have h := lcGo_pure (vs := [2]) (g := .nm 2) (t := W__law_alike_2 (run (n + 1))) (e := W__law_alike_1 (run (n + 1))) (src := (List.range ds.length).map EV.encN) (ow := none) (δ := [.dat d, .dat d, .un]) EV.encN (fun _ => none) rfl (List.range ds.length) (by
      intro k hk
      have hk' := List.mem_range.mp hk
      have e := h k hk'
      have hx : bIx d (.int (k : Int)) = some (.dat (ds.getD k .none)) := by
        rcases hd with rfl | rfl
        · exact EV.p_ixDT hk'
        · exact EV.p_ixDL hk'
      apply EV.lt_f
      and_intros)
    rw [List.filterMap_eq_nil_iff.mpr fun _ _ => rfl] at h
    apply EV.e_lc
    and_intros
  have u1 : uIs [.tuple, .list] d = some (.dat (.bool true)) := by rcases hd with rfl | rfl <;> rfl
  obtain ⟨b, u2⟩ : ∃ b, uIs [.list] d = some (.dat (.bool b)) := by
    rcases hd with rfl | rfl
    · exact ⟨false, rfl⟩
    · exact ⟨true, rfl⟩
  have u3 : bNe (.bool b) (.bool b) = some (.dat (.bool false)) := by
    rw [EV.p_neB]
    cases b <;> rfl
  have u4 : bNe (.int (ds.length : Int)) (.int (ds.length : Int)) = some (.dat (.bool false)) := by
    rw [EV.p_ne, decide_eq_true rfl]
    rfl
  apply go__law_alike
  and_intros
theorem I_alike_int (n : Nat) (v : Int) : run (n + 1) "_law_alike" none [.int v, .int v] = some (.dat (.bool true), none) := by
  rw [run__law_alike]
  simp [F__law_alike]
theorem I_alike_none (n : Nat) : run (n + 1) "_law_alike" none [.none, .none] = some (.dat (.bool true), none) := by
  rw [run__law_alike]
  simp [F__law_alike]
theorem I_alike_bool (n : Nat) (b : Bool) : run (n + 1) "_law_alike" none [.bool b, .bool b] = some (.dat (.bool true), none) := by
  rw [run__law_alike]
  simp [F__law_alike]
theorem I_alike (n : Nat) : ∀ (k : Nat) (d : D), EV.okA k d = true → run (n + k + 1) "_law_alike" none [d, d] = some (.dat (.bool true), none) := by
  intro k
  induction k with
  | zero =>
    intro d h
    cases d with
    | int v => exact I_alike_int n v
    | none => exact I_alike_none n
    | bool b => exact I_alike_bool n b
    | _ => simp [EV.okA] at h
  | succ k ih =>
    intro d h
    have seq : ∀ ds : List D, (d = .tuple ds ∨ d = .list ds) → ds.length ≤ 1000000 → ds.all (EV.okA k) = true → run (n + (k + 1) + 1) "_law_alike" none [d, d] = some (.dat (.bool true), none) := fun ds hd hl ha => alike_seq (n + k) hd hl fun j hj => ih _ (by
      have := List.all_eq_true.mp ha (ds[j]) (List.getElem_mem hj)
      simpa [List.getD, hj] using this)
    cases d with
    | int v => exact I_alike_int (n + (k + 1)) v
    | none => exact I_alike_none (n + (k + 1))
    | bool b => exact I_alike_bool (n + (k + 1)) b
    | tuple ds =>
      simp only [EV.okA, Bool.and_eq_true, decide_eq_true_eq] at h
      exact seq ds (.inl rfl) h.1 h.2
    | list ds =>
      simp only [EV.okA, Bool.and_eq_true, decide_eq_true_eq] at h
      exact seq ds (.inr rfl) h.1 h.2
    | _ => simp [EV.okA] at h
theorem I_alike_row (n : Nat) (xs : List Int) (hl : xs.length ≤ 1000000) : run (n + 2) "_law_alike" none [iT xs, iT xs] = some (.dat (.bool true), none) := I_alike n 1 _ (EV.okA_row hl)
theorem I_alike_rowL (n : Nat) (xs : List Int) (hl : xs.length ≤ 1000000) : run (n + 2) "_law_alike" none [iL xs, iL xs] = some (.dat (.bool true), none) := I_alike n 1 _ (EV.okA_rowL hl)
theorem I_alike_two (n : Nat) (xs ys : List Int) (hl : xs.length ≤ 1000000) (hl2 : ys.length ≤ 1000000) : run (n + 3) "_law_alike" none [.tuple [iT xs, iT ys], .tuple [iT xs, iT ys]] = some (.dat (.bool true), none) := I_alike n 2 _ (by
  have h1 := EV.okA_row (k := 0) hl
  have h2 := EV.okA_row (k := 0) hl2
  simp only [EV.okA, List.length_cons, List.length_nil, List.all_cons, List.all_nil] at h1 h2 ⊢
  simp only [h1, h2]
  simp)
theorem I_inverse (n : Nat) {p l : Int} {m : Nat} (hp : isPrime p) (h : IsInv p l m) : run (n + 1) "inverse" none [.int p, .int l] = some (.dat (.int (m : Int)), none) := by
  have pp := prime_pos hp
  obtain ⟨m1, m6, h1, h2⟩ := h
  have key : ∀ (k o fuel : Nat), o + k = m → 1 ≤ o → k < fuel → whileGo (tB (fBin bNe (oV (fBin bMod (oV (fBin bMul (oVar 1) (oVar 2))) (oVar 0))) (oV (vC (.int 1))))) (W_inverse_1 (run n)) fuel [.dat (.int p), .dat (.int l), .dat (.int (o : Int))] = some (.nx, [.dat (.int p), .dat (.int l), .dat (.int (m : Int))]) := by
    intro k
    induction k with
    | zero =>
      intro o fuel e ho hf
      obtain rfl : o = m := by omega
      obtain ⟨f, rfl⟩ : ∃ f, fuel = f + 1 := ⟨fuel - 1, by omega⟩
      have t : tB (fBin bNe (oV (fBin bMod (oV (fBin bMul (oVar 1) (oVar 2))) (oVar 0))) (oV (vC (.int 1)))) [.dat (.int p), .dat (.int l), .dat (.int (o : Int))] = some (!decide (l * (o : Int) % p = 1), [.dat (.int p), .dat (.int l), .dat (.int (o : Int))]) := by and_intros
      rw [whileGo, t, decide_eq_true h1]
      rfl
    | succ k ih =>
      intro o fuel e ho hf
      obtain ⟨f, rfl⟩ : ∃ f, fuel = f + 1 := ⟨fuel - 1, by omega⟩
      have t : tB (fBin bNe (oV (fBin bMod (oV (fBin bMul (oVar 1) (oVar 2))) (oVar 0))) (oV (vC (.int 1)))) [.dat (.int p), .dat (.int l), .dat (.int (o : Int))] = some (!decide (l * (o : Int) % p = 1), [.dat (.int p), .dat (.int l), .dat (.int (o : Int))]) := by and_intros
      have b : W_inverse_1 (run n) [.dat (.int p), .dat (.int l), .dat (.int (o : Int))] = some (.nx, [.dat (.int p), .dat (.int l), .dat (.int ((o : Int) + 1))]) := by and_intros
      have ne := h2 o ho (by omega)
      rw [whileGo, t, decide_eq_false ne]
      simp only [Option.bind_some, Bool.not_false, if_true, b]
      exact ih (o + 1) f (by omega) (by omega) (by omega)
  have key := key (m - 1) 1 turns (by omega) (by omega) (by unfold turns; omega)
  rw [show ((1 : Nat) : Int) = 1 from rfl] at key
  apply go_inverse
  and_intros
end IPL
end
section
set_option linter.all false
set_option maxRecDepth 8000
namespace IPL
open IP
open PySem (PyData)
section
variable {p : Int}
/-- the first n numbers of an endless row -/
def pre (f : Nat → Int) (n : Nat) : List Int := (List.range n).map f
theorem pre_len (f : Nat → Int) (n : Nat) : (pre f n).length = n := by simp [pre]
theorem pre_getD (f : Nat → Int) {n i : Nat} (h : i < n) : (pre f n).getD i 0 = f i := by
  unfold pre
  rw [getD_range, if_pos h]
theorem pre_nums {f : Nat → Int} (hf : ∀ i, 0 ≤ f i ∧ f i < p) (n : Nat) : nums p (pre f n) := fun x hx => by
  obtain ⟨i, _, rfl⟩ := List.mem_map.mp hx
  exact hf i
theorem pre_take (f : Nat → Int) {m c : Nat} (h : m ≤ c) : (pre f c).take m = pre f m := by
  unfold pre
  rw [← List.map_take, List.take_range, Nat.min_eq_left h]
theorem pre_conv (f : Nat → Int) (C : List Int) {c k : Nat} (h : k < c) : cv C (pre f c) k = conv (fun j => C.getD j 0) f k := by
  rw [cv_conv]
  unfold conv
  exact sg_congr fun j hj => by
    show C.getD j 0 * (pre f c).getD (k - j) 0 = C.getD j 0 * f (k - j)
    rw [pre_getD f (by omega)]
theorem bm_sizes2 {row : List Int} (hp : isPrime p) (h : nums p row) : (bmR p row).C.length = (bmR p row).L + 1 ∧ (bmR p row).L ≤ row.length ∧ (bmR p row).B.length ≤ row.length + 1 := by
  have b := bmi hp h
  have s := b.sz
  have l := b.le
  have m := b.m1
  rw [bmR_s] at s l
  exact ⟨b.lC, l, by omega⟩
/-- a low that an endless row goes on by -/
structure Ann (p : Int) (C : List Int) (t : Nat) (f : Nat → Int) : Prop where
  len : C.length = t + 1
  num : nums p C
  c0 : C.getD 0 0 = 1
  an : ∀ k, t ≤ k → p ∣ conv (fun j => C.getD j 0) f k
/-- an endless row of numbers that a register of at most d taps makes -/
structure Rw (p : Int) (d : Nat) (f : Nat → Int) : Prop where
  num : ∀ i, 0 ≤ f i ∧ f i < p
  reg : ∃ (C : List Int) (t : Nat), t ≤ d ∧ Ann p C t f
theorem Ann.sq (hp : isPrime p) {C : List Int} {t : Nat} {f : Nat → Int} (h : Ann p C t f) (hf : ∀ i, 0 ≤ f i ∧ f i < p) (i : Nat) : sq p (tapsC p C) (pre f t) i = f i := by
  have pp := prime_pos hp
  have hlen : (tapsC p C).length = t := by rw [tapsC_len, h.len]; omega
  refine sq_uniq (by omega) (by rw [pre_len, hlen]) hf (fun i hi => pre_getD f (by omega)) (fun k hk => ?_) i
  have g := h.an k (by omega)
  have e := conv_taps (p := p) C f k (by rw [h.len]; omega) h.c0
  rw [Int.emod_eq_zero_of_dvd g, show C.length - 1 = (tapsC p C).length by rw [tapsC_len]] at e
  exact emod_of (Int.dvd_of_emod_eq_zero e.symm)
theorem Ann.of_sq (hp : isPrime p) {ts st : List Int} (ht : nums p ts) (hl : st.length = ts.length) {f : Nat → Int} (hf : ∀ i, f i = IPL.sq p ts st i) : Ann p (lowL p ts) ts.length f where
  len := lowL_len p ts
  num := fun x hx => by
    have pp := prime_pos hp
    rcases List.mem_cons.mp hx with rfl | hx
    · omega
    · obtain ⟨t, _, rfl⟩ := List.mem_map.mp hx
      exact ⟨Int.emod_nonneg _ (by omega), Int.emod_lt_of_pos _ (by omega)⟩
  c0 := rfl
  an := fun k hk => by
    have := low_sq hp ht hl k hk
    rwa [show IPL.sq p ts st = f from funext fun i => (hf i).symm] at this
theorem Ann.least (hp : isPrime p) {C : List Int} {t : Nat} {f : Nat → Int} (h : Ann p C t f) (hf : ∀ i, 0 ≤ f i ∧ f i < p) (n : Nat) : (bmR p (pre f n)).L ≤ t := by
  have b := bmi hp (pre_nums hf n)
  refine b.least C t ⟨by rw [h.len]; omega, h.c0, fun k h1 h2 => ?_⟩
  rw [bmR_s] at h2 ⊢
  rw [pre_len] at h2
  rw [pre_conv f C h2]
  exact h.an k h1
/-- what the shortest register of enough numbers makes -/
theorem Rw.best (hp : isPrime p) {d : Nat} {f : Nat → Int} (h : Rw p d f) {n : Nat} (hn : 2 * d ≤ n) : Ann p (bmR p (pre f n)).C (bmR p (pre f n)).L f := by
  have pp := prime_pos hp
  obtain ⟨C0, t, ht, ha⟩ := h.reg
  have b := bmi hp (pre_nums h.num n)
  have hL := ha.least hp h.num n
  have hs : IPL.sq p (tapsC p C0) (pre f t) = f := funext fun i => ha.sq hp h.num i
  have hl : (tapsC p C0).length = t := by rw [tapsC_len, ha.len]; omega
  refine ⟨b.lC, b.nC, b.c0, ?_⟩
  have := goes_on hp (ts := tapsC p C0) (st := pre f t) (C := (bmR p (pre f n)).C) (L := (bmR p (pre f n)).L) (n := n) (tapsC_nums (by omega) _) (by rw [pre_len, hl]) (by rw [b.lC]; omega) (by omega) (by omega) (fun k h1 h2 => by
    have := b.mak k h1 (by rw [bmR_s, pre_len]; exact h2)
    rw [bmR_s, pre_conv f _ h2] at this
    rw [hs]
    exact this)
  rwa [hs] at this
theorem conv_sub (a b f : Nat → Int) (k : Nat) : conv (fun j => a j - b j) f k = conv a f k - conv b f k := by
  unfold conv
  rw [← sg_sub]
  exact sg_congr fun j _ => by rw [Int.sub_mul]
/-- two shortest ones are one -/
theorem ann_uniq (hp : isPrime p) {C C' : List Int} {L : Nat} {f : Nat → Int} (h : Ann p C L f) (h' : Ann p C' L f) (hm : ∀ E t, Ann p E t f → L ≤ t) : C = C' := by
  have pp := prime_pos hp
  have no : ∀ j, C.getD j 0 = C'.getD j 0 := by
    intro j
    induction j using Nat.strongRecOn with
    | _ j0 ih =>
      refine Classical.byContradiction fun hne => ?_
      have hj1 : 0 < j0 := Nat.pos_of_ne_zero fun e => hne (by rw [e, h.c0, h'.c0])
      have hjL : j0 ≤ L := Nat.le_of_not_lt fun hlt => hne (by rw [getD_big C j0 (by rw [h.len]; omega), getD_big C' j0 (by rw [h'.len]; omega)])
      have b1 := nums_getD (by omega) h.num j0
      have b2 := nums_getD (by omega) h'.num j0
      have hd : (C.getD j0 0 - C'.getD j0 0) % p ≠ 0 := fun e => by
        obtain ⟨w, hw⟩ := Int.dvd_of_emod_eq_zero e
        rcases Int.lt_trichotomy w 0 with h1 | h1 | h1
        · have : p * w ≤ p * (-1) := Int.mul_le_mul_of_nonneg_left (by omega) (by omega)
          omega
        · subst h1; omega
        · have : p * 1 ≤ p * w := Int.mul_le_mul_of_nonneg_left (by omega) (by omega)
          omega
      have iv := ivf_spec hp hd
      generalize hv : ((ivf p (C.getD j0 0 - C'.getD j0 0) : Nat) : Int) = v at *
      let D : Nat → Int := fun j => C.getD j 0 - C'.getD j 0
      have := hm ((List.range (L - j0 + 1)).map fun i => v * D (j0 + i) % p) (L - j0) ⟨by simp, fun x hx => ?_, ?_, fun k hk => ?_⟩
      · omega
      · obtain ⟨i, _, rfl⟩ := List.mem_map.mp hx
        exact ⟨Int.emod_nonneg _ (by omega), Int.emod_lt_of_pos _ (by omega)⟩
      · rw [getD_range (fun i => v * D (j0 + i) % p), if_pos (by omega), Nat.add_zero, Int.mul_comm]
        have := iv.2.2.1
        rw [hv] at this
        exact this
      · have e0 : p ∣ conv D f (k + j0) := by
          show p ∣ conv (fun j => C.getD j 0 - C'.getD j 0) f (k + j0)
          rw [conv_sub (fun j => C.getD j 0) (fun j => C'.getD j 0)]
          exact Int.dvd_sub (h.an _ (by omega)) (h'.an _ (by omega))
        have e1 : conv D f (k + j0) = conv (fun i => D (j0 + i)) f k := by
          unfold conv
          rw [← show k + j0 + 1 - j0 = k + 1 by omega, ← sg_shift]
          refine sg_congr fun j hj => ?_
          by_cases hjj : j0 ≤ j
          · rw [if_pos hjj]
            show D j * f (k + j0 - j) = D (j0 + (j - j0)) * f (k - (j - j0))
            rw [show j0 + (j - j0) = j by omega, show k - (j - j0) = k + j0 - j by omega]
          · rw [if_neg hjj]
            show (C.getD j 0 - C'.getD j 0) * f (k + j0 - j) = 0
            rw [ih j (by omega), Int.sub_self, Int.zero_mul]
        rw [e1] at e0
        have e2 : p ∣ conv (fun j => ((List.range (L - j0 + 1)).map fun i => v * D (j0 + i) % p).getD j 0) f k - v * conv (fun i => D (j0 + i)) f k := by
          unfold conv
          rw [sg_mul_left]
          refine sg_dvd fun j hj => ?_
          show p ∣ ((List.range (L - j0 + 1)).map fun i => v * D (j0 + i) % p).getD j 0 * f (k - j) - v * (D (j0 + j) * f (k - j))
          rw [getD_range (fun i => v * D (j0 + i) % p)]
          by_cases hjl : j < L - j0 + 1
          · rw [if_pos hjl]
            obtain ⟨u, hu⟩ := mod_dvd (p := p) (v * D (j0 + j))
            exact ⟨u * f (k - j), by rw [show p * (u * f (k - j)) = (p * u) * f (k - j) by grind, ← hu]; grind⟩
          · rw [if_neg hjl]
            have : D (j0 + j) = 0 := by
              show C.getD (j0 + j) 0 - C'.getD (j0 + j) 0 = 0
              rw [getD_big C _ (by rw [h.len]; omega), getD_big C' _ (by rw [h'.len]; omega)]
              rfl
            rw [this]
            simp
        have := Int.dvd_add e2 (Int.dvd_mul_of_dvd_right (b := v) e0)
        rwa [Int.sub_add_cancel] at this
  exact list_ext (by rw [h.len, h'.len]) fun i _ => no i
theorem Rw.same (hp : isPrime p) {d d' : Nat} {f : Nat → Int} (h : Rw p d f) (h' : Rw p d' f) {n n' : Nat} (hn : 2 * d ≤ n) (hn' : 2 * d' ≤ n') : (bmR p (pre f n)).L = (bmR p (pre f n')).L ∧ (bmR p (pre f n)).C = (bmR p (pre f n')).C := by
  have a := h.best hp hn
  have a' := h'.best hp hn'
  have e : (bmR p (pre f n)).L = (bmR p (pre f n')).L := Nat.le_antisymm (a'.least hp h.num n) (a.least hp h.num n')
  refine ⟨e, ?_⟩
  rw [← e] at a'
  exact ann_uniq hp a a' fun E t hE => hE.least hp h.num n
theorem Rw.le (hp : isPrime p) {d : Nat} {f : Nat → Int} (h : Rw p d f) (n : Nat) : (bmR p (pre f n)).L ≤ d := by
  obtain ⟨C, t, ht, ha⟩ := h.reg
  have := ha.least hp h.num n
  omega
/-- a register's row, from an index on, every so many steps -/
theorem dec_rw (hp : isPrime p) {ts st : List Int} (ht : nums p ts) (hs : nums p st) (hl : st.length = ts.length) (a b : Nat) : Rw p ts.length fun k => sq p ts st (a + b * k) where
  num := fun i => sq_num (by have := prime_pos hp; omega) hs _
  reg := by
    have pp := prime_pos hp
    obtain ⟨C, t, h1, h2, h3, h4, h5⟩ := reg_of hp (d := ts.length) (f := fun k => sq p ts st (a + b * k)) (b := fun j n => sq p ts st (a + b * n + j)) (v := fun i j => (wts p ts (b * i)).getD j 0) (fun i n hi => by
      have hw := wts_len hp ts (b * i)
      have e := leap hp hl hs (b * i) (a + b * n)
      rw [lam_pad _ _ _ ts.length hw] at e
      rw [show a + b * (n + i) = a + b * n + b * i by rw [Nat.mul_add, Nat.add_assoc], ← e]
      obtain ⟨u, hu⟩ := mod_dvd (p := p) (sg (fun j => (wts p ts (b * i)).getD j 0 * sq p ts st (a + b * n + j)) ts.length)
      exact ⟨u, hu⟩)
    exact ⟨C, t, h1, h2, h3, h4, h5⟩
theorem sq_rw (hp : isPrime p) {ts st : List Int} (ht : nums p ts) (hs : nums p st) (hl : st.length = ts.length) : Rw p ts.length (sq p ts st) where
  num := fun i => sq_num (by have := prime_pos hp; omega) hs _
  reg := ⟨_, _, Nat.le_refl _, Ann.of_sq hp ht hl fun _ => rfl⟩
/-! ### elimination -/
def eqs (f : Nat → Int) (l m : Nat) : List (List Int × Int) := (List.range (m - l)).map fun i => ((List.range l).map fun k => f (l + i - 1 - k), f (l + i))
theorem eqs_ok {f : Nat → Int} (hf : ∀ i, 0 ≤ f i ∧ f i < p) (l m : Nat) : ∀ q ∈ eqs f l m, nums p q.1 ∧ q.1.length = l ∧ 0 ≤ q.2 ∧ q.2 < p := fun q hq => by
  obtain ⟨i, _, rfl⟩ := List.mem_map.mp hq
  refine ⟨fun x hx => ?_, by simp, hf _⟩
  obtain ⟨k, _, rfl⟩ := List.mem_map.mp hx
  exact hf _
theorem eqs_sat (f : Nat → Int) (l m : Nat) (x : Nat → Int) : (∀ ln ∈ (eqs f l m).map fun q => q.1 ++ [q.2], Sat p l x ln) ↔ ∀ k, l ≤ k → k < m → p ∣ sg (fun j => x j * f (k - 1 - j)) l - f k := by
  have one : ∀ i, Sat p l x (((List.range l).map fun k => f (l + i - 1 - k)) ++ [f (l + i)]) ↔ p ∣ sg (fun j => x j * f (l + i - 1 - j)) l - f (l + i) := fun i => by
    unfold Sat
    rw [getD_app_r _ _ _ (by simp)]
    rw [show sg (fun k => ((List.range l).map (fun k => f (l + i - 1 - k)) ++ [f (l + i)]).getD k 0 * x k) l = sg (fun j => x j * f (l + i - 1 - j)) l from sg_congr fun j hj => by
      rw [getD_app_l _ _ _ (by simp; omega), getD_range (fun k => f (l + i - 1 - k)), if_pos hj, Int.mul_comm]]
    simp
  constructor
  · intro h k h1 h2
    have := h _ (List.mem_map.mpr ⟨_, List.mem_map.mpr ⟨k - l, List.mem_range.mpr (by omega), rfl⟩, rfl⟩)
    have := (one (k - l)).mp this
    rwa [show l + (k - l) = k by omega] at this
  · intro h ln hln
    obtain ⟨q, hq, rfl⟩ := List.mem_map.mp hln
    obtain ⟨i, hi, rfl⟩ := List.mem_map.mp hq
    have hi := List.mem_range.mp hi
    exact (one i).mpr (h (l + i) (by omega) (by omega))
theorem conv_low (hp : isPrime p) {ts : List Int} (ht : nums p ts) (f : Nat → Int) {k : Nat} (hk : ts.length ≤ k) : p ∣ conv (fun j => (lowL p ts).getD j 0) f k ↔ p ∣ sg (fun j => ts.getD j 0 * f (k - 1 - j)) ts.length - f k := by
  have e := conv_taps (p := p) (lowL p ts) f k (by rw [lowL_len]; omega) rfl
  rw [tapsC_lowL hp ht, show (lowL p ts).length - 1 = ts.length by rw [lowL_len]; omega] at e
  have pp := prime_pos hp
  have n : f k - sg (fun j => ts.getD j 0 * f (k - 1 - j)) ts.length = -(sg (fun j => ts.getD j 0 * f (k - 1 - j)) ts.length - f k) := by omega
  constructor
  · intro h
    rw [Int.emod_eq_zero_of_dvd h] at e
    have := Int.dvd_of_emod_eq_zero e.symm
    rw [n] at this
    exact Int.dvd_neg.mp this
  · intro h
    have := Int.dvd_neg.mpr h
    rw [← n] at this
    rw [Int.emod_eq_zero_of_dvd this] at e
    exact Int.dvd_of_emod_eq_zero e
/-- elimination finds none below the least length -/
theorem elim_none (hp : isPrime p) {f : Nat → Int} (hf : ∀ i, 0 ≤ f i ∧ f i < p) {l m : Nat} (hl : l < (bmR p (pre f m)).L) : gRun p l ((eqs f l m).map fun q => q.1 ++ [q.2]) [] = none := by
  have pp := prime_pos hp
  have K0 : KOk p l [] := ⟨(fun q hq => by cases hq), List.Pairwise.nil⟩
  have ok := gRun_ok hp ((eqs f l m).map fun q => q.1 ++ [q.2]) [] K0 (fun ln hln => by
    obtain ⟨q, hq, rfl⟩ := List.mem_map.mp hln
    have := eqs_ok hf l m q hq
    exact ⟨nums_snoc this.1 this.2.2, by rw [len_snoc, this.2.1]⟩)
  cases e : gRun p l ((eqs f l m).map fun q => q.1 ++ [q.2]) [] with
  | none => rfl
  | some kn =>
    exfalso
    obtain ⟨K, hs⟩ := ok.1 kn e
    have h := ((hs _).mp (firstK_sat K)).2
    have h := (eqs_sat (p := p) f l m _).mp h
    have fl := firstK_len K
    have fn := firstK_nums (by omega) K
    have b := bmi hp (pre_nums hf m)
    have := b.least (lowL p (firstK l kn)) l ⟨by rw [lowL_len, fl]; omega, rfl, fun k h1 h2 => by
      rw [bmR_s] at h2 ⊢
      rw [pre_len] at h2
      rw [pre_conv f _ h2]
      exact (conv_low hp fn f (by omega)).mpr (by rw [fl]; exact h k h1 h2)⟩
    omega
/-- .. and the only one at it -/
theorem elim_some (hp : isPrime p) {d : Nat} {f : Nat → Int} (R : Rw p d f) {m : Nat} (hm : 2 * d ≤ m) : ∃ kn, gRun p (bmR p (pre f m)).L ((eqs f (bmR p (pre f m)).L m).map fun q => q.1 ++ [q.2]) [] = some kn ∧ firstK (bmR p (pre f m)).L kn = tapsC p (bmR p (pre f m)).C := by
  have pp := prime_pos hp
  have hf := R.num
  have a := R.best hp hm
  have hLd := R.le hp m
  obtain ⟨L, hL⟩ : ∃ L, L = (bmR p (pre f m)).L := ⟨_, rfl⟩
  obtain ⟨C, hC⟩ : ∃ C, C = (bmR p (pre f m)).C := ⟨_, rfl⟩
  have min : ∀ E t, Ann p E t f → L ≤ t := fun E t hE => by rw [hL]; exact hE.least hp hf m
  rw [← hL, ← hC] at a
  rw [← hL] at hLd ⊢
  rw [← hC]
  have K0 : KOk p L [] := ⟨(fun q hq => by cases hq), List.Pairwise.nil⟩
  have ok := gRun_ok hp ((eqs f L m).map fun q => q.1 ++ [q.2]) [] K0 (fun ln hln => by
    obtain ⟨q, hq, rfl⟩ := List.mem_map.mp hln
    have := eqs_ok hf L m q hq
    exact ⟨nums_snoc this.1 this.2.2, by rw [len_snoc, this.2.1]⟩)
  have tn := tapsC_nums (show 0 < p by omega) C
  have tl : (tapsC p C).length = L := by rw [tapsC_len, a.len]; omega
  have sat : ∀ k, L ≤ k → k < m → p ∣ sg (fun j => (tapsC p C).getD j 0 * f (k - 1 - j)) L - f k := fun k h1 h2 => by
    have e := conv_taps (p := p) C f k (by rw [a.len]; omega) a.c0
    rw [Int.emod_eq_zero_of_dvd (a.an k h1), show C.length - 1 = L by rw [a.len]; omega] at e
    have := Int.dvd_neg.mpr (Int.dvd_of_emod_eq_zero e.symm)
    rwa [Int.neg_sub] at this
  cases e : gRun p L ((eqs f L m).map fun q => q.1 ++ [q.2]) [] with
  | none => exact absurd ((eqs_sat (p := p) f L m _).mpr sat) (ok.2 e _ fun q hq => by cases hq)
  | some kn =>
    refine ⟨kn, rfl, ?_⟩
    obtain ⟨K, hs⟩ := ok.1 kn e
    have h := ((hs _).mp (firstK_sat K)).2
    have h := (eqs_sat (p := p) f L m _).mp h
    have fl := firstK_len K
    have fn := firstK_nums (by omega) K
    obtain ⟨C0, t, ht, ha⟩ := R.reg
    have hsq : IPL.sq p (tapsC p C0) (pre f t) = f := funext fun i => ha.sq hp hf i
    have hl0 : (tapsC p C0).length = t := by rw [tapsC_len, ha.len]; omega
    have hLt : L ≤ t := min _ _ ha
    have g := goes_on hp (ts := tapsC p C0) (st := pre f t) (C := lowL p (firstK L kn)) (L := L) (n := m) (tapsC_nums (by omega) _) (by rw [pre_len, hl0]) (by rw [lowL_len, fl]; omega) (by omega) (by omega) (fun k h1 h2 => by
      rw [hsq]
      exact (conv_low hp fn f (by omega)).mpr (by rw [fl]; exact h k h1 h2))
    rw [hsq] at g
    have a2 : Ann p (lowL p (firstK L kn)) L f := ⟨by rw [lowL_len, fl], fun x hx => by
      rcases List.mem_cons.mp hx with rfl | hx
      · omega
      · obtain ⟨t, _, rfl⟩ := List.mem_map.mp hx
        exact ⟨Int.emod_nonneg _ (by omega), Int.emod_lt_of_pos _ (by omega)⟩, rfl, g⟩
    have := ann_uniq hp a a2 min
    rw [this, tapsC_lowL hp fn]
end
end IPL
end
section
set_option linter.all false
set_option maxRecDepth 8000
namespace IPL
open IP
open PySem (PyData)
section
variable {p : Int}
/-- a row as the beginning of an endless one -/
theorem pre_row (r : List Int) : pre (fun i => r.getD i 0) r.length = r := list_ext (pre_len _ _) fun i hi => by
  rw [pre_len] at hi
  rw [pre_getD _ hi]
theorem row_num (h0 : 0 < p) {r : List Int} (h : nums p r) (i : Nat) : 0 ≤ r.getD i 0 ∧ r.getD i 0 < p := nums_getD h0 h i
/-- elimination finds one at the least length -/
theorem elim_fin (hp : isPrime p) {f : Nat → Int} (hf : ∀ i, 0 ≤ f i ∧ f i < p) (m : Nat) : ∃ kn, gRun p (bmR p (pre f m)).L ((eqs f (bmR p (pre f m)).L m).map fun q => q.1 ++ [q.2]) [] = some kn := by
  have pp := prime_pos hp
  have b := bmi hp (pre_nums hf m)
  have bs := bmR_s p (pre f m)
  have bl := b.lC
  have bc := b.c0
  have bm := b.mak
  rw [bs, pre_len] at bm
  obtain ⟨L, hL⟩ : ∃ L, L = (bmR p (pre f m)).L := ⟨_, rfl⟩
  obtain ⟨C, hC⟩ : ∃ C, C = (bmR p (pre f m)).C := ⟨_, rfl⟩
  rw [← hL, ← hC] at bl bm
  rw [← hC] at bc
  rw [← hL]
  have K0 : KOk p L [] := ⟨(fun q hq => by cases hq), List.Pairwise.nil⟩
  have ok := gRun_ok hp ((eqs f L m).map fun q => q.1 ++ [q.2]) [] K0 (fun ln hln => by
    obtain ⟨q, hq, rfl⟩ := List.mem_map.mp hln
    have := eqs_ok hf L m q hq
    exact ⟨nums_snoc this.1 this.2.2, by rw [len_snoc, this.2.1]⟩)
  have sat : ∀ k, L ≤ k → k < m → p ∣ sg (fun j => (tapsC p C).getD j 0 * f (k - 1 - j)) L - f k := fun k h1 h2 => by
    have e := conv_taps (p := p) C f k (by rw [bl]; omega) bc
    have hm := bm k h1 h2
    rw [pre_conv f C h2] at hm
    rw [Int.emod_eq_zero_of_dvd hm, show C.length - 1 = L by rw [bl]; omega] at e
    have := Int.dvd_neg.mpr (Int.dvd_of_emod_eq_zero e.symm)
    rwa [Int.neg_sub] at this
  cases e : gRun p L ((eqs f L m).map fun q => q.1 ++ [q.2]) [] with
  | none => exact absurd ((eqs_sat (p := p) f L m _).mpr sat) (ok.2 e _ fun q hq => by cases hq)
  | some kn => exact ⟨kn, rfl⟩
/-- the lengths of the beginnings -/
noncomputable def profI (p : Int) (r : List Int) : List Int := (List.range r.length).map fun k => ((bmR p (r.take (k + 1))).L : Int)
theorem profI_len (p : Int) (r : List Int) : (profI p r).length = r.length := by simp [profI]
theorem profI_getD (p : Int) (r : List Int) {k : Nat} (h : k < r.length) : (profI p r).getD k 0 = ((bmR p (r.take (k + 1))).L : Int) := by
  unfold profI
  rw [getD_range (fun k => ((bmR p (r.take (k + 1))).L : Int)), if_pos h]
theorem profI_snoc (p : Int) (r : List Int) (x : Int) : profI p (r ++ [x]) = profI p r ++ [((bmR p (r ++ [x])).L : Int)] := by
  unfold profI
  rw [List.length_append, List.length_singleton, List.range_succ, List.map_append]
  congr 1
  · apply List.map_congr_left
    intro k hk
    have hk := List.mem_range.mp hk
    rw [List.take_append_of_le_length (by omega)]
  · simp only [List.map_cons, List.map_nil]
    rw [List.take_of_length_le (by simp)]
theorem profI_take (p : Int) (r : List Int) (k : Nat) : profI p (r.take k) = (profI p r).take k := by
  apply list_ext
  · rw [profI_len, List.length_take, List.length_take, profI_len]
  · intro i hi
    rw [profI_len, List.length_take] at hi
    rw [profI_getD _ _ (by rw [List.length_take]; exact hi), List.take_take, Nat.min_eq_left (by omega)]
    rw [show ((profI p r).take k).getD i 0 = (profI p r).getD i 0 by simp [List.getD, List.getElem?_take, show i < k by omega], profI_getD _ _ (by omega)]
/-- the length ahead -/
def prv (ls : List Int) (k : Nat) : Int := if k = 0 then 0 else ls.getD (k - 1) 0
/-- what cannot be broken -/
structure OkP (ls : List Int) : Prop where
  len : ls.length ≤ 400
  bd : ∀ x ∈ ls, 0 ≤ x ∧ x ≤ 400
  st : ∀ k, k < ls.length → ls.getD k 0 = prv ls k ∨ 2 * prv ls k ≤ k ∧ ls.getD k 0 = k + 1 - prv ls k
theorem bmS_L (p : Int) (g : BM) (x : Int) : (bmS p g x).L = if miss p g x ≠ 0 ∧ 2 * g.L ≤ g.s.length then g.s.length + 1 - g.L else g.L := by
  unfold bmS
  by_cases h : miss p g x = 0
  · rw [if_pos h, if_neg (fun e => e.1 h)]
  · rw [if_neg h]
    by_cases h2 : 2 * g.L ≤ g.s.length
    · rw [if_pos h2, if_pos ⟨h, h2⟩]
    · rw [if_neg h2, if_neg (fun e => h2 e.2)]
theorem prof_prv (hp : isPrime p) {r : List Int} {k : Nat} (hk : k ≤ r.length) : prv (profI p r) k = ((bmR p (r.take k)).L : Int) := by
  unfold prv
  by_cases h : k = 0
  · subst h
    rw [if_pos rfl]
    rfl
  · rw [if_neg h, profI_getD _ _ (by omega), show k - 1 + 1 = k by omega]
theorem take_snoc {r : List Int} {k : Nat} (h : k < r.length) : r.take (k + 1) = r.take k ++ [r.getD k 0] := by
  rw [List.take_succ, List.getElem?_eq_getElem h]
  simp [List.getD, h]
theorem prof_ok (hp : isPrime p) {r : List Int} (hr : nums p r) (hl : r.length ≤ 400) : OkP (profI p r) where
  len := by rw [profI_len]; exact hl
  bd := fun x hx => by
    obtain ⟨k, hk, rfl⟩ := List.mem_map.mp hx
    have hk := List.mem_range.mp hk
    have := (bm_sizes2 hp (fun y hy => hr y (List.mem_of_mem_take hy) : nums p (r.take (k + 1)))).2.1
    rw [List.length_take] at this
    omega
  st := fun k hk => by
    rw [profI_len] at hk
    rw [prof_prv hp (by omega), profI_getD _ _ hk, take_snoc hk, bmR_snoc', bmS_L]
    have bs := bmR_s p (r.take k)
    have hn : (bmR p (r.take k)).s.length = k := by rw [bs, List.length_take]; omega
    have hb := (bm_sizes2 hp (fun y hy => hr y (List.mem_of_mem_take hy) : nums p (r.take k))).2.1
    rw [List.length_take] at hb
    rw [hn]
    split
    · right
      omega
    · left
      rfl
/-- a row told by its lengths -/
noncomputable def ropS (p : Int) (g : BM) (len : Int) : BM := bmS p g ((expd p g.s g.C + (if len = (g.L : Int) then 0 else 1)) % p)
noncomputable def ropR (p : Int) (ls : List Int) : BM := ls.foldl (ropS p) bm0
theorem expd_num (h0 : 0 < p) (s C : List Int) : 0 ≤ expd p s C ∧ expd p s C < p := ⟨Int.emod_nonneg _ (by omega), Int.emod_lt_of_pos _ h0⟩
theorem rop_miss (hp : isPrime p) (g : BM) (j : Int) (hj : 0 ≤ j ∧ j ≤ 1) : miss p g ((expd p g.s g.C + j) % p) = j := by
  have pp := prime_pos hp
  unfold miss
  rw [Int.sub_emod, Int.emod_emod, ← Int.sub_emod, show expd p g.s g.C + j - expd p g.s g.C = j by omega]
  exact emod_small ⟨hj.1, by omega⟩
theorem rop_snoc (p : Int) (ls : List Int) (x : Int) : ropR p (ls ++ [x]) = ropS p (ropR p ls) x := by
  unfold ropR
  rw [List.foldl_append]
  rfl
theorem rop_take (hp : isPrime p) {ls : List Int} (h : OkP ls) : ∀ k, k ≤ ls.length → (ropR p (ls.take k)) = bmR p (ropR p (ls.take k)).s ∧ nums p (ropR p (ls.take k)).s ∧ (ropR p (ls.take k)).s.length = k ∧ ((ropR p (ls.take k)).L : Int) = prv ls k ∧ profI p (ropR p (ls.take k)).s = ls.take k
  | 0, _ => by
    rw [List.take_zero]
    exact ⟨rfl, (fun x hx => by cases hx), rfl, rfl, rfl⟩
  | k + 1, hk => by
    have pp := prime_pos hp
    obtain ⟨h1, h2, h3, h4, h5⟩ := rop_take hp h k (by omega)
    rw [take_snoc (show k < ls.length by omega), rop_snoc]
    generalize hg : ropR p (ls.take k) = g at *
    have hx := expd_num (show 0 < p by omega) g.s g.C
    have hm := rop_miss hp g (if ls.getD k 0 = (g.L : Int) then 0 else 1) (by split <;> omega)
    generalize hxx : (expd p g.s g.C + (if ls.getD k 0 = (g.L : Int) then 0 else 1)) % p = x at *
    have hxn : 0 ≤ x ∧ x < p := by rw [← hxx]; exact ⟨Int.emod_nonneg _ (by omega), Int.emod_lt_of_pos _ (by omega)⟩
    have eS : ropS p g (ls.getD k 0) = bmS p g x := by unfold ropS; rw [hxx]
    have es := bmS_s p g x
    have eL : ((bmS p g x).L : Int) = ls.getD k 0 := by
      rw [bmS_L, hm, h3]
      have st := h.st k (by omega)
      rw [← h4] at st
      have bd := (bm_sizes2 hp h2).2.1
      rw [← h1, h3] at bd
      by_cases e : ls.getD k 0 = (g.L : Int)
      · rw [if_pos e, if_neg (fun e => e.1 rfl), e]
      · rw [if_neg e]
        have st := st.resolve_left e
        rw [if_pos ⟨by decide, by omega⟩]
        omega
    have eB : bmS p g x = bmR p (g.s ++ [x]) := by rw [bmR_snoc', ← h1]
    rw [eS, es]
    refine ⟨eB, nums_snoc h2 hxn, by rw [len_snoc, h3], ?_, ?_⟩
    · rw [eL]
      unfold prv
      rw [if_neg (by omega), show k + 1 - 1 = k by omega]
    · rw [profI_snoc, h5, ← eB, eL]
/-- how many numbers keep a profile -/
def fac (p : Int) (ls : List Int) (k : Nat) : Int := if ls.getD k 0 ≠ prv ls k then p - 1 else if 2 * prv ls k > k then p else 1
theorem cnt_ne (hp : isPrime p) {e : Int} (he : 0 ≤ e ∧ e < p) : (((List.range p.toNat).filter fun (x : Nat) => decide ((x : Int) ≠ e)).length : Int) = p - 1 := by
  rcases hp with rfl | rfl | rfl | rfl
  · have : e = 0 ∨ e = 1 := by omega
    rcases this with rfl | rfl <;> rfl
  · have : e = 0 ∨ e = 1 ∨ e = 2 := by omega
    rcases this with rfl | rfl | rfl <;> rfl
  · have : e = 0 ∨ e = 1 ∨ e = 2 ∨ e = 3 ∨ e = 4 := by omega
    rcases this with rfl | rfl | rfl | rfl | rfl <;> rfl
  · have : e = 0 ∨ e = 1 ∨ e = 2 ∨ e = 3 ∨ e = 4 ∨ e = 5 ∨ e = 6 := by omega
    rcases this with rfl | rfl | rfl | rfl | rfl | rfl | rfl <;> rfl
theorem cnt_eq (hp : isPrime p) {e : Int} (he : 0 ≤ e ∧ e < p) : (((List.range p.toNat).filter fun (x : Nat) => decide ((x : Int) = e)).length : Int) = 1 := by
  rcases hp with rfl | rfl | rfl | rfl
  · have : e = 0 ∨ e = 1 := by omega
    rcases this with rfl | rfl <;> rfl
  · have : e = 0 ∨ e = 1 ∨ e = 2 := by omega
    rcases this with rfl | rfl | rfl <;> rfl
  · have : e = 0 ∨ e = 1 ∨ e = 2 ∨ e = 3 ∨ e = 4 := by omega
    rcases this with rfl | rfl | rfl | rfl | rfl <;> rfl
  · have : e = 0 ∨ e = 1 ∨ e = 2 ∨ e = 3 ∨ e = 4 ∨ e = 5 ∨ e = 6 := by omega
    rcases this with rfl | rfl | rfl | rfl | rfl | rfl | rfl <;> rfl
theorem fac_cnt (hp : isPrime p) {r ls : List Int} (hr : nums p r) (hl : r.length ≤ 400) (e : profI p r = ls) {k : Nat} (hk : k < r.length) :
    (((List.range p.toNat).filter fun (x : Nat) => decide (profI p (r.take k ++ [(x : Int)]) = ls.take (k + 1))).length : Int) = fac p ls k := by
  have pp := prime_pos hp
  have ok := prof_ok hp hr hl
  rw [e] at ok
  have hkl : k < ls.length := by rw [← e, profI_len]; exact hk
  have hn : nums p (r.take k) := fun y hy => hr y (List.mem_of_mem_take hy)
  have b := bm_sizes2 hp hn
  rw [List.length_take] at b
  have hp4 : prv ls k = ((bmR p (r.take k)).L : Int) := by rw [← e]; exact prof_prv hp (by omega)
  generalize hg : bmR p (r.take k) = g at *
  have gs : g.s = r.take k := by rw [← hg]; exact bmR_s p _
  have gl : g.s.length = k := by rw [gs, List.length_take]; omega
  have key : ∀ x : Nat, x < p.toNat → (decide (profI p (r.take k ++ [(x : Int)]) = ls.take (k + 1)) = decide ((if (x : Int) ≠ expd p g.s g.C ∧ 2 * g.L ≤ k then ((k + 1 - g.L : Nat) : Int) else (g.L : Int)) = ls.getD k 0)) := fun x hx => by
    apply decide_eq_decide.mpr
    rw [profI_snoc, take_snoc hkl, profI_take, e, bmR_snoc', hg, bmS_L, gl]
    have hm : miss p g (x : Int) ≠ 0 ↔ (x : Int) ≠ expd p g.s g.C := by
      have hx2 := expd_num (show 0 < p by omega) g.s g.C
      unfold miss
      constructor
      · intro h1 h2
        rw [h2, Int.sub_self] at h1
        exact h1 rfl
      · intro h1 h2
        obtain ⟨w, hw⟩ := Int.dvd_of_emod_eq_zero h2
        rcases Int.lt_trichotomy w 0 with h3 | h3 | h3
        · have : p * w ≤ p * (-1) := Int.mul_le_mul_of_nonneg_left (by omega) (by omega)
          omega
        · subst h3; omega
        · have : p * 1 ≤ p * w := Int.mul_le_mul_of_nonneg_left (by omega) (by omega)
          omega
    rw [List.append_cancel_left_eq]
    simp only [List.cons.injEq, and_true]
    by_cases c : (x : Int) ≠ expd p g.s g.C ∧ 2 * g.L ≤ k
    · rw [if_pos c, if_pos ⟨hm.mpr c.1, c.2⟩]
    · rw [if_neg c, if_neg (fun e => c ⟨hm.mp e.1, e.2⟩)]
  rw [List.filter_congr (fun x hx => key x (List.mem_range.mp hx))]
  have st := ok.st k hkl
  rw [hp4] at st
  unfold fac
  rw [hp4]
  have he := expd_num (show 0 < p by omega) g.s g.C
  by_cases h1 : ls.getD k 0 = (g.L : Int)
  · rw [if_neg (fun c => c h1)]
    by_cases h2 : 2 * g.L ≤ k
    · rw [if_neg (by omega), List.filter_congr (q := fun (x : Nat) => decide ((x : Int) = expd p g.s g.C)) (fun x _ => by
        apply decide_eq_decide.mpr
        by_cases c : (x : Int) = expd p g.s g.C
        · rw [if_neg (fun z => z.1 c)]
          exact ⟨fun _ => c, fun _ => h1.symm⟩
        · rw [if_pos ⟨c, h2⟩]
          constructor
          · intro z; omega
          · intro z; exact absurd z c)]
      exact cnt_eq hp he
    · rw [if_pos (by omega), List.filter_eq_self.mpr (fun x _ => by
        apply decide_eq_true
        rw [if_neg (fun z => h2 z.2)]
        exact h1.symm), List.length_range]
      omega
  · rw [if_pos h1]
    have st := st.resolve_left h1
    rw [List.filter_congr (q := fun (x : Nat) => decide ((x : Int) ≠ expd p g.s g.C)) (fun x _ => by
        apply decide_eq_decide.mpr
        by_cases c : (x : Int) = expd p g.s g.C
        · rw [if_neg (fun z => z.1 c)]
          exact ⟨fun z => absurd z.symm h1, fun z => absurd c z⟩
        · rw [if_pos ⟨c, by omega⟩]
          constructor
          · intro _; exact c
          · intro z; omega)]
    exact cnt_ne hp he
/-- the product of the numbers -/
def facs (p : Int) (ls : List Int) : Nat → Int
  | 0 => 1
  | k + 1 => facs p ls k * fac p ls k
end
end IPL
end
section
set_option linter.all false
set_option maxRecDepth 8000
namespace IPL
open IP
open PySem (PyData)
/-! perfect rows modulo 2 -/
theorem sg_split (f : Nat → Int) (m : Nat) : ∀ n, sg f (m + n) = sg f m + sg (fun i => f (m + i)) n
  | 0 => by simp [sg]
  | n + 1 => by rw [← Nat.add_assoc]; show sg f (m + n) + f (m + n) = sg f m + (sg (fun i => f (m + i)) n + f (m + n)); rw [sg_split f m n]; omega
/-- squares modulo 2 -/
theorem conv_sq (a : Nat → Int) (k : Nat) : (2 : Int) ∣ conv a a k - (if k % 2 = 0 then a (k / 2) else 0) := by
  unfold conv
  have fl : ∀ (h : Nat) (c : Nat), c = k + 1 - h → h ≤ k + 1 → sg (fun i => (fun j => a j * a (k - j)) (c + i)) h = sg (fun j => a j * a (k - j)) h := fun h c hc hk => by
    rw [← sg_flip (fun i => (fun j => a j * a (k - j)) (c + i)) h]
    refine sg_congr fun j hj => ?_
    show a (c + (h - 1 - j)) * a (k - (c + (h - 1 - j))) = a j * a (k - j)
    rw [show c + (h - 1 - j) = k - j by omega, show k - (k - j) = j by omega, Int.mul_comm]
  by_cases e : k % 2 = 0
  · rw [if_pos e]
    obtain ⟨h, rfl⟩ : ∃ h, k = 2 * h := ⟨k / 2, by omega⟩
    rw [show 2 * h + 1 = h + (1 + h) by omega, sg_split, show 1 + h = h + 1 by omega, show h + 1 = 1 + h by omega, sg_split]
    have e1 : sg (fun i => (fun i => (fun j => a j * a (2 * h - j)) (h + i)) (1 + i)) h = sg (fun j => a j * a (2 * h - j)) h := by
      rw [← fl h (h + 1) (by omega) (by omega)]
      exact sg_congr fun j _ => by
        show a (h + (1 + j)) * a (2 * h - (h + (1 + j))) = a (h + 1 + j) * a (2 * h - (h + 1 + j))
        rw [← Nat.add_assoc]
    rw [e1]
    show (2 : Int) ∣ sg (fun j => a j * a (2 * h - j)) h + (0 + a (h + 0) * a (2 * h - (h + 0)) + sg (fun j => a j * a (2 * h - j)) h) - a (2 * h / 2)
    rw [show h + 0 = h by omega, show 2 * h - h = h by omega, show 2 * h / 2 = h by omega]
    have sq : (2 : Int) ∣ a h * a h - a h := by
      rw [show a h * a h - a h = a h * (a h - 1) by rw [Int.mul_sub, Int.mul_one]]
      rcases (show a h % 2 = 0 ∨ a h % 2 = 1 by omega) with q | q
      · exact Int.dvd_mul_of_dvd_left (Int.dvd_of_emod_eq_zero q)
      · exact Int.dvd_mul_of_dvd_right (by omega)
    omega
  · rw [if_neg e]
    obtain ⟨h, rfl⟩ : ∃ h, k = 2 * h + 1 := ⟨k / 2, by omega⟩
    rw [show 2 * h + 1 + 1 = (h + 1) + (h + 1) by omega, sg_split, fl (h + 1) (h + 1) (by omega) (by omega)]
    omega
theorem conv_addR (a b c : Nat → Int) (k : Nat) : conv a (fun j => b j + c j) k = conv a b k + conv a c k := by
  unfold conv
  rw [← sg_add]
  exact sg_congr fun j _ => by rw [Int.mul_add]
theorem conv_shift (a b : Nat → Int) (m k : Nat) (h : m ≤ k) : conv a (fun j => if j < m then 0 else b (j - m)) k = conv a b (k - m) := by
  rw [conv_comm, conv_comm a b]
  unfold conv
  rw [← show k + 1 - m = k - m + 1 by omega, ← sg_shift]
  refine sg_congr fun j hj => ?_
  show (if j < m then 0 else b (j - m)) * a (k - j) = if m ≤ j then b (j - m) * a (k - m - (j - m)) else 0
  by_cases hm : m ≤ j
  · rw [if_pos hm, if_neg (by omega), show k - m - (j - m) = k - j by omega]
  · rw [if_neg hm, if_pos (by omega), Int.zero_mul]
theorem conv_one (a : Nat → Int) (k : Nat) : conv a (fun j => if j = 0 then 1 else 0) k = a k := by
  unfold conv
  rw [sg_congr (g := fun j => if j = k then a k else 0) (fun j hj => by
    by_cases e : j = k
    · subst e
      simp
    · show a j * (if k - j = 0 then 1 else 0) = _
      rw [if_neg e, if_neg (by omega), Int.mul_zero]), sg_one, if_pos (by omega)]
theorem conv_dvd {p : Int} {a a' b b' : Nat → Int} {k : Nat} (h : ∀ j, j ≤ k → p ∣ a j - a' j) (h' : ∀ j, j ≤ k → p ∣ b j - b' j) : p ∣ conv a b k - conv a' b' k := by
  unfold conv
  refine sg_dvd fun j hj => ?_
  obtain ⟨u, hu⟩ := h j (by omega)
  obtain ⟨w, hw⟩ := h' (k - j) (by omega)
  exact ⟨u * b (k - j) + a' j * w, by
    rw [show p * (u * b (k - j) + a' j * w) = (p * u) * b (k - j) + a' j * (p * w) by grind, ← hu, ← hw]
    grind⟩
/-- the sum that is even: C C (S + y S + y y S S + 1) -/
theorem perf_sum (c s : Nat → Int) {i : Nat} (hi : 1 ≤ i) (h0 : (2 : Int) ∣ s 0 - 1) (hr : ∀ j, 1 ≤ j → j ≤ i → (2 : Int) ∣ s (2 * j) - (s (2 * j - 1) + s (j - 1))) (hv : ∀ k, i ≤ k → k < 2 * i → (2 : Int) ∣ conv c s k) (hc0 : c 0 = 1) (hc : ∀ j, i < j → c j = 0) : (2 : Int) ∣ conv c s (2 * i) + c i * conv c s (i - 1) + conv c s (i - 1) + c i := by
  let u : Nat → Int := fun m => s m + ((if m < 1 then 0 else s (m - 1)) + ((if m < 2 then 0 else conv s s (m - 2)) + (if m = 0 then 1 else 0)))
  have hu : ∀ m, m ≤ 2 * i → m % 2 = 0 → (2 : Int) ∣ u m := fun m hm he => by
    obtain ⟨j, rfl⟩ : ∃ j, m = 2 * j := ⟨m / 2, by omega⟩
    show (2 : Int) ∣ s (2 * j) + ((if 2 * j < 1 then 0 else s (2 * j - 1)) + ((if 2 * j < 2 then 0 else conv s s (2 * j - 2)) + (if 2 * j = 0 then 1 else 0)))
    by_cases hj : j = 0
    · subst hj
      simp only [Nat.mul_zero, Nat.lt_irrefl, show (0 : Nat) < 1 from by decide, show (0 : Nat) < 2 from by decide, if_true]
      omega
    · rw [if_neg (by omega), if_neg (by omega), if_neg (by omega)]
      have q := conv_sq s (2 * j - 2)
      rw [if_pos (by omega), show (2 * j - 2) / 2 = j - 1 by omega] at q
      have := hr j (by omega) (by omega)
      omega
  have e1 : (2 : Int) ∣ conv (conv c c) u (2 * i) := by
    have : (2 : Int) ∣ conv (conv c c) u (2 * i) - conv (fun _ => 0) (fun _ => 0) (2 * i) := by
      unfold conv
      refine sg_dvd fun j hj => ?_
      rw [Int.mul_zero, Int.sub_zero]
      by_cases e : j % 2 = 0
      · exact Int.dvd_mul_of_dvd_right (hu (2 * i - j) (by omega) (by omega))
      · have q := conv_sq c j
        rw [if_neg e, Int.sub_zero] at q
        exact Int.dvd_mul_of_dvd_left q
    rwa [show conv (fun _ => 0) (fun _ => 0) (2 * i) = 0 from by unfold conv; exact sg_zero fun _ _ => rfl, Int.sub_zero] at this
  have e2 : conv (conv c c) u (2 * i) = conv c (conv c s) (2 * i) + (conv c (conv c s) (2 * i - 1) + (conv (conv c s) (conv c s) (2 * i - 2) + conv c c (2 * i))) := by
    show conv (conv c c) (fun m => s m + ((if m < 1 then 0 else s (m - 1)) + ((if m < 2 then 0 else conv s s (m - 2)) + (if m = 0 then 1 else 0)))) (2 * i) = _
    rw [conv_addR, conv_addR, conv_addR, conv_shift _ s 1 _ (by omega), conv_shift _ (conv s s) 2 _ (by omega), conv_one, conv_assoc, conv_assoc]
    congr 3
    -- (c c) (s s) = (c s) (c s)
    have f1 : conv c s = conv s c := funext fun k => conv_comm c s k
    rw [conv_assoc c c (conv s s), conv_assoc c s (conv c s)]
    have f2 : conv c (conv s s) = conv s (conv c s) := funext fun k => by
      rw [← conv_assoc, f1, conv_assoc]
      exact congrFun (congrArg (conv s) f1) k
    rw [f2]
  rw [e2] at e1
  have v1 : (2 : Int) ∣ conv c (conv c s) (2 * i) - conv c s (2 * i) := by
    have h1 : (2 : Int) ∣ conv c (conv c s) (2 * i) - sg (fun j => if j = 0 then conv c s (2 * i) else 0) (2 * i + 1) := by
      unfold conv
      refine sg_dvd fun j hj => ?_
      by_cases hj0 : j = 0
      · subst hj0
        rw [if_pos rfl, hc0, Int.one_mul]
        show (2 : Int) ∣ conv c s (2 * i - 0) - conv c s (2 * i)
        rw [Nat.sub_zero, Int.sub_self]
        exact Int.dvd_zero 2
      · rw [if_neg hj0, Int.sub_zero]
        by_cases hji : j ≤ i
        · exact Int.dvd_mul_of_dvd_right (hv (2 * i - j) (by omega) (by omega))
        · rw [hc j (by omega), Int.zero_mul]
          exact Int.dvd_zero 2
    rw [sg_one, if_pos (by omega)] at h1
    exact h1
  have v2 : (2 : Int) ∣ conv c (conv c s) (2 * i - 1) - c i * conv c s (i - 1) := by
    have h1 : (2 : Int) ∣ conv c (conv c s) (2 * i - 1) - sg (fun j => if j = i then c i * conv c s (i - 1) else 0) (2 * i - 1 + 1) := by
      unfold conv
      refine sg_dvd fun j hj => ?_
      by_cases hj0 : j = i
      · subst hj0
        rw [if_pos rfl]
        show (2 : Int) ∣ c j * conv c s (2 * j - 1 - j) - c j * conv c s (j - 1)
        rw [show 2 * j - 1 - j = j - 1 by omega, Int.sub_self]
        exact Int.dvd_zero 2
      · rw [if_neg hj0, Int.sub_zero]
        by_cases hji : j < i
        · exact Int.dvd_mul_of_dvd_right (hv (2 * i - 1 - j) (by omega) (by omega))
        · rw [hc j (by omega), Int.zero_mul]
          exact Int.dvd_zero 2
    rw [sg_one, if_pos (by omega)] at h1
    exact h1
  have v3 := conv_sq (conv c s) (2 * i - 2)
  rw [if_pos (by omega), show (2 * i - 2) / 2 = i - 1 by omega] at v3
  have v4 := conv_sq c (2 * i)
  rw [if_pos (by omega), show 2 * i / 2 = i by omega] at v4
  omega
/-- the rule of perfect rows -/
def Rec (r : List Int) (n : Nat) : Prop := (0 < n → r.getD 0 0 ≠ 0) ∧ ∀ i, 1 ≤ i → 2 * i < n → r.getD (2 * i) 0 = (r.getD (2 * i - 1) 0 + r.getD (i - 1) 0) % 2
def Perf (r : List Int) (n : Nat) : Prop := ∀ k, k < n → (bmR 2 (r.take (k + 1))).L = k / 2 + 1
theorem perf_key {r : List Int} (hr : nums 2 r) {i : Nat} (hi : 1 ≤ i) (hl : 2 * i < r.length) (hp : Perf r (2 * i)) (hc : Rec r (2 * i)) : miss 2 (bmR 2 (r.take (2 * i))) ((r.getD (2 * i - 1) 0 + r.getD (i - 1) 0) % 2) = 1 := by
  have p2 : isPrime 2 := .inl rfl
  have hn : nums 2 (r.take (2 * i)) := fun y hy => hr y (List.mem_of_mem_take hy)
  have b := bmi p2 hn
  have bs := bmR_s 2 (r.take (2 * i))
  have hL := hp (2 * i - 1) (by omega)
  rw [show 2 * i - 1 + 1 = 2 * i by omega, show (2 * i - 1) / 2 + 1 = i by omega] at hL
  obtain ⟨x, hx⟩ : ∃ x, x = (r.getD (2 * i - 1) 0 + r.getD (i - 1) 0) % 2 := ⟨_, rfl⟩
  rw [← hx]
  have hxb : 0 ≤ x ∧ x < 2 := by omega
  have mc := miss_cv b x
  have sl : (r.take (2 * i)).length = 2 * i := by rw [List.length_take]; omega
  rw [bs, sl] at mc
  rw [← mc]
  have mk := b.mak
  have le := b.least
  have lC := b.lC
  have c0 := b.c0
  have nC := b.nC
  rw [bs, hL, sl] at mk
  rw [bs, hL, sl] at le
  rw [hL] at lC
  generalize (bmR 2 (r.take (2 * i))).C = C at *
  obtain ⟨s, hs⟩ : ∃ s, s = r.take (2 * i) ++ [x] := ⟨_, rfl⟩
  have gs : ∀ k, k < 2 * i → s.getD k 0 = r.getD k 0 := fun k hk => by
    rw [hs, getD_app_l _ _ _ (by omega)]
    simp [List.getD, List.getElem?_take, hk]
  have gx : s.getD (2 * i) 0 = x := by
    rw [hs, getD_app_r _ _ _ (by omega), sl, Nat.sub_self]
    rfl
  have b0 := nums_getD (show (0 : Int) < 2 by decide) hr 0
  have rr := hc.1 (by omega)
  have ps := perf_sum (fun j => C.getD j 0) (fun j => s.getD j 0) hi (by
    show (2 : Int) ∣ s.getD 0 0 - 1
    rw [gs 0 (by omega)]
    omega) (fun j h1 h2 => by
    show (2 : Int) ∣ s.getD (2 * j) 0 - (s.getD (2 * j - 1) 0 + s.getD (j - 1) 0)
    by_cases hj : j = i
    · subst hj
      rw [gx, gs _ (by omega), gs _ (by omega), hx]
      omega
    · rw [gs _ (by omega), gs _ (by omega), gs _ (by omega), hc.2 j h1 (by omega)]
      omega) (fun k h1 h2 => by
    have := mk k h1 h2
    rwa [← cv_app C _ x (by omega), ← hs, cv_conv] at this) c0 (fun j hj => getD_big C j (by omega))
  rw [← cv_conv, ← cv_conv, hs] at ps
  have bC := nums_getD (show (0 : Int) < 2 by decide) nC i
  have dich : ∀ y : Int, 0 ≤ y ∧ y < 2 → y = 0 ∨ y = 1 := fun y hy => by omega
  rcases dich _ bC with q | q
  · have hvi : ¬ (2 : Int) ∣ cv C (r.take (2 * i)) (i - 1) := fun hv => by
      have := le (C.take i) (i - 1) ⟨by rw [List.length_take]; omega, by simp [List.getD, List.getElem?_take, show 0 < i by omega]; simpa [List.getD] using c0, fun k h1 h2 => by
        have e : ∀ j, (C.take i).getD j 0 = C.getD j 0 := fun j => by
          by_cases hj : j < i
          · simp [List.getD, List.getElem?_take, hj]
          · rw [getD_big _ _ (by rw [List.length_take]; omega)]
            by_cases hj2 : j = i
            · rw [hj2, q]
            · rw [getD_big _ _ (by omega)]
        have e2 : cv (C.take i) (r.take (2 * i)) k = cv C (r.take (2 * i)) k := by
          unfold cv
          exact sg_congr fun j _ => by rw [e]
        rw [e2]
        by_cases hk : k = i - 1
        · rw [hk]
          exact hv
        · exact mk k (by omega) h2⟩
      omega
    rw [← cv_app C _ x (by omega)] at hvi
    show cv C (r.take (2 * i) ++ [x]) (2 * i) % 2 = 1
    have q' : (fun j => C.getD j 0) i = 0 := q
    simp only [q, Int.zero_mul, Int.add_zero] at ps
    omega
  · simp only [q, Int.one_mul] at ps
    show cv C (r.take (2 * i) ++ [x]) (2 * i) % 2 = 1
    omega
theorem perf_rec {r : List Int} (hr : nums 2 r) : ∀ n, n ≤ r.length → (Perf r n ↔ Rec r n)
  | 0, _ => ⟨fun _ => ⟨fun h => by omega, fun i h1 h2 => by omega⟩, fun _ k hk => by omega⟩
  | n + 1, hn => by
    have p2 : isPrime 2 := .inl rfl
    have ih := perf_rec hr n (by omega)
    have hnn : nums 2 (r.take n) := fun y hy => hr y (List.mem_of_mem_take hy)
    have bs := bmR_s 2 (r.take n)
    have sl : (r.take n).length = n := by rw [List.length_take]; omega
    have stepL : (bmR 2 (r.take (n + 1))).L = if miss 2 (bmR 2 (r.take n)) (r.getD n 0) ≠ 0 ∧ 2 * (bmR 2 (r.take n)).L ≤ n then n + 1 - (bmR 2 (r.take n)).L else (bmR 2 (r.take n)).L := by
      rw [take_snoc (by omega), bmR_snoc', bmS_L, bs, sl]
    have hx := nums_getD (show (0 : Int) < 2 by decide) hr n
    have pn : Perf r (n + 1) ↔ Perf r n ∧ (bmR 2 (r.take (n + 1))).L = n / 2 + 1 := ⟨fun h => ⟨fun k hk => h k (by omega), h n (by omega)⟩, fun h k hk => by
      by_cases e : k = n
      · rw [e]; exact h.2
      · exact h.1 k (by omega)⟩
    rw [pn]
    rcases Nat.mod_two_eq_zero_or_one n with e | e
    · obtain ⟨i, rfl⟩ : ∃ i, n = 2 * i := ⟨n / 2, by omega⟩
      by_cases hi : i = 0
      · subst hi
        have m0 : miss 2 (bmR 2 (r.take 0)) (r.getD 0 0) = r.getD 0 0 := by
          show (r.getD 0 0 - expd 2 [] [1]) % 2 = _
          rw [show expd 2 [] [1] = 0 from rfl, Int.sub_zero]
          exact emod_small hx
        rw [Nat.mul_zero] at *
        rw [stepL, m0]
        show Perf r 0 ∧ (if r.getD 0 0 ≠ 0 ∧ 2 * 0 ≤ 0 then 0 + 1 - 0 else 0) = 1 ↔ _
        constructor
        · rintro ⟨_, h⟩
          refine ⟨fun _ h0 => ?_, fun i h1 h2 => by omega⟩
          have h' : (if r.getD 0 0 ≠ 0 ∧ 2 * 0 ≤ 0 then 0 + 1 - 0 else 0) = 1 := h
          rw [if_neg (fun z => z.1 h0)] at h'
          cases h'
        · intro h
          exact ⟨fun k hk => by omega, by
            exact if_pos (show r.getD 0 0 ≠ 0 ∧ 2 * 0 ≤ 0 from ⟨h.1 (by omega), by omega⟩)⟩
      · have key : Perf r (2 * i) → Rec r (2 * i) → ((bmR 2 (r.take (2 * i + 1))).L = 2 * i / 2 + 1 ↔ r.getD (2 * i) 0 = (r.getD (2 * i - 1) 0 + r.getD (i - 1) 0) % 2) := fun h1 h2 => by
          have hk := perf_key hr (by omega) (by omega) h1 h2
          have hL := h1 (2 * i - 1) (by omega)
          rw [show 2 * i - 1 + 1 = 2 * i by omega, show (2 * i - 1) / 2 + 1 = i by omega] at hL
          rw [stepL, hL, show 2 * i / 2 = i by omega]
          unfold miss at hk ⊢
          generalize expd 2 (bmR 2 (r.take (2 * i))).s (bmR 2 (r.take (2 * i))).C = ee at *
          constructor
          · intro h
            by_cases c : (r.getD (2 * i) 0 - ee) % 2 ≠ 0 ∧ 2 * i ≤ 2 * i
            · omega
            · rw [if_neg c] at h
              omega
          · intro h
            rw [h, hk, if_pos ⟨by decide, Nat.le_refl _⟩]
            omega
        constructor
        · rintro ⟨h1, h2⟩
          have h3 := ih.mp h1
          refine ⟨fun _ => h3.1 (by omega), fun j hj1 hj2 => ?_⟩
          by_cases e : j = i
          · rw [e]
            exact (key h1 h3).mp h2
          · exact h3.2 j hj1 (by omega)
        · intro h
          have h3 : Rec r (2 * i) := ⟨fun _ => h.1 (by omega), fun j hj1 hj2 => h.2 j hj1 (by omega)⟩
          have h1 := ih.mpr h3
          exact ⟨h1, (key h1 h3).mpr (h.2 i (by omega) (by omega))⟩
    · have kk : Perf r n → (bmR 2 (r.take (n + 1))).L = n / 2 + 1 := fun h => by
        have hL := h (n - 1) (by omega)
        rw [show n - 1 + 1 = n by omega] at hL
        rw [stepL, hL, if_neg (fun z => by omega)]
        omega
      constructor
      · rintro ⟨h1, _⟩
        have h3 := ih.mp h1
        exact ⟨fun _ => h3.1 (by omega), fun j hj1 hj2 => h3.2 j hj1 (by omega)⟩
      · intro h
        have h1 := ih.mpr ⟨fun _ => h.1 (by omega), fun j hj1 hj2 => h.2 j hj1 (by omega)⟩
        exact ⟨h1, kk h1⟩
/-- lengths of perfect rows -/
def dueP (n : Nat) : List Int := (List.range n).map fun (k : Nat) => ((k / 2 + 1 : Nat) : Int)
theorem dueP_len (n : Nat) : (dueP n).length = n := by simp [dueP]
theorem dueP_getD {n k : Nat} (h : k < n) : (dueP n).getD k 0 = ((k / 2 + 1 : Nat) : Int) := by
  unfold dueP
  rw [getD_range (fun (k : Nat) => ((k / 2 + 1 : Nat) : Int)), if_pos h]
theorem dueP_ok {n : Nat} (h : n ≤ 400) : OkP (dueP n) where
  len := by rw [dueP_len]; exact h
  bd := fun x hx => by
    obtain ⟨k, hk, rfl⟩ := List.mem_map.mp hx
    have := List.mem_range.mp hk
    omega
  st := fun k hk => by
    rw [dueP_len] at hk
    have e : prv (dueP n) k = (((k + 1) / 2 : Nat) : Int) := by
      unfold prv
      by_cases h0 : k = 0
      · subst h0
        rfl
      · rw [if_neg h0, dueP_getD (by omega)]
        omega
    rw [e, dueP_getD hk]
    omega
theorem perf_due (r : List Int) : profI 2 r = dueP r.length ↔ Perf r r.length := by
  constructor
  · intro h k hk
    have := congrArg (fun l => l.getD k 0) h
    rw [profI_getD _ _ hk, dueP_getD hk] at this
    omega
  · intro h
    refine list_ext (by rw [profI_len, dueP_len]) fun k hk => ?_
    rw [profI_len] at hk
    rw [profI_getD _ _ hk, dueP_getD hk, h k hk]
end IPL
end
section
set_option linter.all false
set_option maxRecDepth 8000
namespace IPL
open IP
open PySem (PyData)
section
variable {p : Int}
theorem zeros_num (h0 : 0 < p) (n : Nat) : nums p (List.replicate n 0) := fun x hx => by
  rw [(List.mem_replicate.mp hx).2]
  omega
theorem cv_zeros (C : List Int) (n k : Nat) : cv C (List.replicate n 0) k = 0 := by
  unfold cv
  exact sg_zero fun j _ => by rw [getD_zeros, Int.mul_zero]
theorem bm_zeros (hp : isPrime p) (n : Nat) : (bmR p (List.replicate n 0)).L = 0 := by
  have b := bmi hp (zeros_num (by have := prime_pos hp; omega) n)
  have := b.least [1] 0 ⟨by simp, rfl, fun k _ _ => by
    rw [bmR_s, cv_zeros]
    exact Int.dvd_zero p⟩
  omega
theorem expd_zeros (C : List Int) (n : Nat) : expd p (List.replicate n 0) C = 0 := by
  unfold expd exq
  rw [sum_sg, sg_zero (fun j _ => by rw [getD_zeros, Int.mul_zero])]
  simp
def late (n : Nat) (x : Int) : List Int := List.replicate n 0 ++ [x]
theorem late_len (n : Nat) (x : Int) : (late n x).length = n + 1 := by simp [late]
theorem late_num (h0 : 0 < p) {n : Nat} {x : Int} (hx : 0 < x ∧ x < p) : nums p (late n x) := nums_snoc (zeros_num h0 n) ⟨by omega, hx.2⟩
theorem bm_late (hp : isPrime p) {n : Nat} {x : Int} (hx : 0 < x ∧ x < p) : (bmR p (late n x)).L = n + 1 := by
  unfold late
  rw [bmR_snoc', bmS_L, bm_zeros hp, bmR_s, List.length_replicate]
  have m : miss p (bmR p (List.replicate n 0)) x = x := by
    unfold miss
    rw [bmR_s, expd_zeros, Int.sub_zero]
    exact emod_small ⟨by omega, hx.2⟩
  rw [m, if_pos ⟨by omega, by omega⟩]
  rfl
theorem prof_zeros (hp : isPrime p) (n : Nat) : profI p (List.replicate n 0) = List.replicate n 0 := by
  refine list_ext (by rw [profI_len]) fun k hk => ?_
  rw [profI_len, List.length_replicate] at hk
  rw [profI_getD _ _ (by simpa using hk), List.take_replicate, bm_zeros hp, getD_zeros]
  rfl
theorem prof_late (hp : isPrime p) {n : Nat} {x : Int} (hx : 0 < x ∧ x < p) : profI p (late n x) = List.replicate n 0 ++ [(n : Int) + 1] := by
  have e := bm_late hp (n := n) hx
  unfold late at *
  rw [profI_snoc, prof_zeros hp, e]
  rfl
theorem wB_late (hp : isPrime p) {n : Nat} {x : Int} (hx : 0 < x ∧ x < p) : ∃ v : Int, v ≠ 0 ∧ 0 ≤ v ∧ v < p ∧ wB (bmR p ((late n x).take (n + 1))).B n n (late n x).length = [v] := by
  have pp := prime_pos hp
  have hn := late_num (p := p) (by omega) (n := n) hx
  have ht : (late n x).take (n + 1) = late n x := List.take_of_length_le (by rw [late_len]; omega)
  rw [ht, late_len]
  have b := bmi hp hn
  refine ⟨(bmR p (late n x)).B.getD 0 0, ?_, (nums_getD (by omega) b.nB 0).1, (nums_getD (by omega) b.nB 0).2, ?_⟩
  · intro h0
    have hm : (bmR p (late n x)).m = 1 := by
      unfold late
      rw [bmR_snoc']
      apply bmS_jump
      have := bm_late hp (n := n) hx
      unfold late at this
      rw [bmR_snoc'] at this
      rw [this, bm_zeros hp]
      omega
    have o := b.one (by rw [hm, bmR_s, late_len]; omega)
    rw [hm, bmR_s, late_len, show n + 1 - 1 = n by omega] at o
    have z : cv (bmR p (late n x)).B (late n x) n = 0 := by
      unfold cv
      refine sg_zero fun j hj => ?_
      by_cases e : j = 0
      · rw [e, h0, Int.zero_mul]
      · rw [show (late n x).getD (n - j) 0 = 0 by
          unfold late
          rw [getD_app_l _ _ _ (by simp; omega), getD_zeros], Int.mul_zero]
    rw [z] at o
    simp at o
  · unfold wB
    rw [show n + 1 - n = 1 by omega]
    simp [List.range, List.range.loop]
/-- taps that an endless row goes on by -/
theorem annT (hp : isPrime p) {ts : List Int} (ht : nums p ts) {f : Nat → Int} (h : ∀ k, ts.length ≤ k → p ∣ sg (fun j => ts.getD j 0 * f (k - 1 - j)) ts.length - f k) : Ann p (lowL p ts) ts.length f where
  len := lowL_len p ts
  num := fun x hx => by
    have pp := prime_pos hp
    rcases List.mem_cons.mp hx with rfl | hx
    · omega
    · obtain ⟨t, _, rfl⟩ := List.mem_map.mp hx
      exact ⟨Int.emod_nonneg _ (by omega), Int.emod_lt_of_pos _ (by omega)⟩
  c0 := rfl
  an := fun k hk => (conv_low hp ht f hk).mpr (h k hk)
theorem least_eq (hp : isPrime p) {d : Nat} {f : Nat → Int} (hf : ∀ i, 0 ≤ f i ∧ f i < p) {C : List Int} (a : Ann p C d f) (lo : ∀ E t, Ann p E t f → d ≤ t) {n : Nat} (hn : 2 * d ≤ n) : (bmR p (pre f n)).L = d ∧ (bmR p (pre f n)).C = C := by
  have R : Rw p d f := ⟨hf, C, d, Nat.le_refl _, a⟩
  have b := R.best hp hn
  have h1 := R.le hp n
  have h2 := lo _ _ b
  have e : (bmR p (pre f n)).L = d := by omega
  rw [e] at b
  exact ⟨e, ann_uniq hp b a lo⟩
theorem conv_few {E : List Int} {m : Nat} (hE : E.length ≤ m) (f : Nat → Int) {k : Nat} (hk : m ≤ k + 1) : conv (fun j => E.getD j 0) f k = sg (fun j => E.getD j 0 * f (k - j)) m := by
  unfold conv
  exact sg_short hk fun j hj => by
    show E.getD j 0 * f (k - j) = 0
    rw [getD_big E j (by omega), Int.zero_mul]
/-- numbers that are those of another row, taken modulo p -/
theorem conv_like {E : List Int} {f g : Nat → Int} (h : ∀ j, p ∣ f j - g j) (k : Nat) (hd : p ∣ conv (fun j => E.getD j 0) f k) : p ∣ conv (fun j => E.getD j 0) g k := by
  have := conv_dvd (p := p) (a := fun j => E.getD j 0) (a' := fun j => E.getD j 0) (b := f) (b' := g) (k := k) (fun j _ => by rw [Int.sub_self]; exact Int.dvd_zero p) (fun j _ => h j)
  have := Int.dvd_sub hd this
  rwa [show conv (fun j => E.getD j 0) f k - (conv (fun j => E.getD j 0) f k - conv (fun j => E.getD j 0) g k) = conv (fun j => E.getD j 0) g k by omega] at this
theorem emod_like (a : Int) : p ∣ a % p - a := mod_dvd a
theorem not_dvd (hp : isPrime p) {a : Int} (h : 0 < a ∧ a < p) : ¬ p ∣ a := fun ⟨w, hw⟩ => by
  rcases Int.lt_trichotomy w 0 with h1 | h1 | h1
  · have : p * w ≤ p * (-1) := Int.mul_le_mul_of_nonneg_left (by omega) (by omega)
    omega
  · subst h1; omega
  · have : p * 1 ≤ p * w := Int.mul_le_mul_of_nonneg_left (by omega) (by omega)
    omega
/-- powers -/
theorem geo_least (hp : isPrime p) {c x : Int} (hc : 0 ≤ c ∧ c < p) (hx : 0 < x ∧ x < p) {n : Nat} (hn : 2 ≤ n) : (bmR p (pre (sq p [c] [x]) n)).L = 1 ∧ tapsC p (bmR p (pre (sq p [c] [x]) n)).C = [c] := by
  have pp := prime_pos hp
  have nc : nums p [c] := fun y hy => by rw [List.mem_singleton.mp hy]; exact hc
  have nx : nums p [x] := fun y hy => by rw [List.mem_singleton.mp hy]; omega
  have a := Ann.of_sq hp nc (st := [x]) rfl (f := sq p [c] [x]) fun _ => rfl
  obtain ⟨h1, h2⟩ := least_eq hp (fun i => sq_num (by omega) nx i) a (fun E t hE => by
    show 1 ≤ t
    refine Nat.pos_of_ne_zero fun h0 => ?_
    subst h0
    have := hE.an 0 (Nat.le_refl _)
    rw [conv_few (m := 1) (by rw [hE.len]; omega) _ (by omega)] at this
    have e : sg (fun j => E.getD j 0 * sq p [c] [x] (0 - j)) 1 = x := by
      show 0 + E.getD 0 0 * sq p [c] [x] 0 = x
      rw [hE.c0]
      show 0 + 1 * x = x
      omega
    rw [e] at this
    exact not_dvd hp hx this) (n := n) (by show 2 * 1 ≤ n; omega)
  exact ⟨h1, by rw [h2, tapsC_lowL hp nc]⟩
/-- arithmetic rows -/
def ari (p x s : Int) (k : Nat) : Int := (x + s * (k : Int)) % p
theorem ari_num (hp : isPrime p) (x s : Int) (k : Nat) : 0 ≤ ari p x s k ∧ ari p x s k < p := by
  have pp := prime_pos hp
  exact ⟨Int.emod_nonneg _ (by omega), Int.emod_lt_of_pos _ (by omega)⟩
def ariT (p s : Int) : List Int := if 0 < s then [2 % p, p - 1] else [1]
theorem ari_least (hp : isPrime p) {x s : Int} (hx : 0 < x ∧ x < p) (hs : 0 ≤ s ∧ s < p) {n : Nat} (hn : 4 ≤ n) : tapsC p (bmR p (pre (ari p x s) n)).C = ariT p s ∧ (bmR p (pre (ari p x s) n)).L ≤ 2 := by
  have pp := prime_pos hp
  have num := ari_num hp x s
  have lk : ∀ j, p ∣ ari p x s j - (x + s * (j : Int)) := fun j => emod_like _
  unfold ariT
  by_cases h : 0 < s
  · rw [if_pos h]
    have nt : nums p [2 % p, p - 1] := fun y hy => by
      have : y = 2 % p ∨ y = p - 1 := by simpa using hy
      rcases this with rfl | rfl
      · exact ⟨Int.emod_nonneg _ (by omega), Int.emod_lt_of_pos _ (by omega)⟩
      · omega
    have a := annT hp nt (f := ari p x s) (fun k hk => by
      have hk : 2 ≤ k := hk
      show p ∣ 0 + 2 % p * ari p x s (k - 1 - 0) + (p - 1) * ari p x s (k - 1 - 1) - ari p x s k
      obtain ⟨u0, h0⟩ := lk k
      obtain ⟨u1, h1⟩ := lk (k - 1 - 0)
      obtain ⟨u2, h2⟩ := lk (k - 1 - 1)
      obtain ⟨u3, h3⟩ := emod_like (p := p) 2
      have e1 : ((k - 1 - 0 : Nat) : Int) = (k : Int) - 1 := by omega
      have e2 : ((k - 1 - 1 : Nat) : Int) = (k : Int) - 2 := by omega
      rw [e1] at h1
      rw [e2] at h2
      generalize ari p x s k = f0 at *
      generalize ari p x s (k - 1 - 0) = f1 at *
      generalize ari p x s (k - 1 - 1) = f2 at *
      generalize (2 : Int) % p = two at *
      exact ⟨u3 * f1 + 2 * u1 + f2 - u2 - u0, by grind⟩)
    obtain ⟨g1, g2⟩ := least_eq hp num a (fun E t hE => by
      show 2 ≤ t
      refine Nat.le_of_not_lt fun ht => ?_
      have k1 := conv_like lk 1 (hE.an 1 (by omega))
      have k2 := conv_like lk 2 (hE.an 2 (by omega))
      rw [conv_few (m := 2) (by rw [hE.len]; omega) _ (by omega)] at k1 k2
      have c0 := hE.c0
      have e1 : sg (fun j => E.getD j 0 * (x + s * ((1 - j : Nat) : Int))) 2 = (x + s) + E.getD 1 0 * x := by
        show 0 + E.getD 0 0 * (x + s * ((1 - 0 : Nat) : Int)) + E.getD 1 0 * (x + s * ((1 - 1 : Nat) : Int)) = _
        rw [c0, show ((1 - 0 : Nat) : Int) = 1 from rfl, show ((1 - 1 : Nat) : Int) = 0 from rfl]
        grind
      have e2 : sg (fun j => E.getD j 0 * (x + s * ((2 - j : Nat) : Int))) 2 = (x + 2 * s) + E.getD 1 0 * (x + s) := by
        show 0 + E.getD 0 0 * (x + s * ((2 - 0 : Nat) : Int)) + E.getD 1 0 * (x + s * ((2 - 1 : Nat) : Int)) = _
        rw [c0, show ((2 - 0 : Nat) : Int) = 2 from rfl, show ((2 - 1 : Nat) : Int) = 1 from rfl]
        grind
      rw [e1] at k1
      rw [e2] at k2
      obtain ⟨u, hu⟩ := k1
      obtain ⟨w, hw⟩ := k2
      have key : p ∣ s * s := ⟨(x + s) * u - x * w, by grind⟩
      obtain ⟨z, hz⟩ := key
      rcases hp with rfl | rfl | rfl | rfl
      · obtain rfl : s = 1 := by omega
        omega
      · rcases (show s = 1 ∨ s = 2 by omega) with rfl | rfl <;> omega
      · rcases (show s = 1 ∨ s = 2 ∨ s = 3 ∨ s = 4 by omega) with rfl | rfl | rfl | rfl <;> omega
      · rcases (show s = 1 ∨ s = 2 ∨ s = 3 ∨ s = 4 ∨ s = 5 ∨ s = 6 by omega) with rfl | rfl | rfl | rfl | rfl | rfl <;> omega) (n := n) hn
    exact ⟨by rw [g2, tapsC_lowL hp nt], by rw [g1]; exact Nat.le_refl 2⟩
  · rw [if_neg h]
    obtain rfl : s = 0 := by omega
    have nt : nums p [1] := fun y hy => by rw [List.mem_singleton.mp hy]; omega
    have co : ∀ k, ari p x 0 k = x := fun k => by
      unfold ari
      rw [Int.zero_mul, Int.add_zero]
      exact emod_small ⟨by omega, hx.2⟩
    have a := annT hp nt (f := ari p x 0) (fun k hk => by
      show p ∣ 0 + 1 * ari p x 0 (k - 1 - 0) - ari p x 0 k
      rw [co, co]
      exact ⟨0, by omega⟩)
    obtain ⟨g1, g2⟩ := least_eq hp num a (fun E t hE => by
      show 1 ≤ t
      refine Nat.pos_of_ne_zero fun h0 => ?_
      subst h0
      have := hE.an 0 (Nat.le_refl _)
      rw [conv_few (m := 1) (by rw [hE.len]; omega) _ (by omega)] at this
      have e : sg (fun j => E.getD j 0 * ari p x 0 (0 - j)) 1 = x := by
        show 0 + E.getD 0 0 * ari p x 0 0 = x
        rw [hE.c0, co]
        omega
      rw [e] at this
      exact not_dvd hp hx this) (n := n) (by show 2 * 1 ≤ n; omega)
    exact ⟨by rw [g2, tapsC_lowL hp nt], by rw [g1]; show 1 ≤ 2; omega⟩
/-- squares -/
def sqr (p : Int) (k : Nat) : Int := (k : Int) * (k : Int) % p
theorem sqr_num (hp : isPrime p) (k : Nat) : 0 ≤ sqr p k ∧ sqr p k < p := by
  have pp := prime_pos hp
  exact ⟨Int.emod_nonneg _ (by omega), Int.emod_lt_of_pos _ (by omega)⟩
theorem sqr_least (hp : isPrime p) {n : Nat} (hn : 6 ≤ n) : ((bmR p (pre (sqr p) n)).L : Int) = if p > 2 then 3 else 2 := by
  have pp := prime_pos hp
  have num := sqr_num hp
  have lk : ∀ j, p ∣ sqr p j - (j : Int) * (j : Int) := fun j => emod_like _
  by_cases h2 : p > 2
  · rw [if_pos h2]
    have nt : nums p [3 % p, -3 % p, 1] := fun y hy => by
      have : y = 3 % p ∨ y = -3 % p ∨ y = 1 := by simpa using hy
      rcases this with rfl | rfl | rfl
      · exact ⟨Int.emod_nonneg _ (by omega), Int.emod_lt_of_pos _ (by omega)⟩
      · exact ⟨Int.emod_nonneg _ (by omega), Int.emod_lt_of_pos _ (by omega)⟩
      · omega
    have a := annT hp nt (f := sqr p) (fun k hk => by
      have hk : 3 ≤ k := hk
      show p ∣ 0 + 3 % p * sqr p (k - 1 - 0) + -3 % p * sqr p (k - 1 - 1) + 1 * sqr p (k - 1 - 2) - sqr p k
      obtain ⟨u0, h0⟩ := lk k
      obtain ⟨u1, h1⟩ := lk (k - 1 - 0)
      obtain ⟨u2, h2⟩ := lk (k - 1 - 1)
      obtain ⟨u5, h5⟩ := lk (k - 1 - 2)
      obtain ⟨u3, h3⟩ := emod_like (p := p) 3
      obtain ⟨u4, h4⟩ := emod_like (p := p) (-3)
      have e1 : ((k - 1 - 0 : Nat) : Int) = (k : Int) - 1 := by omega
      have e2 : ((k - 1 - 1 : Nat) : Int) = (k : Int) - 2 := by omega
      have e3 : ((k - 1 - 2 : Nat) : Int) = (k : Int) - 3 := by omega
      rw [e1] at h1
      rw [e2] at h2
      rw [e3] at h5
      generalize sqr p k = f0 at *
      generalize sqr p (k - 1 - 0) = f1 at *
      generalize sqr p (k - 1 - 1) = f2 at *
      generalize sqr p (k - 1 - 2) = f3 at *
      generalize (3 : Int) % p = three at *
      generalize (-3 : Int) % p = mthree at *
      exact ⟨u3 * f1 + 3 * u1 + u4 * f2 - 3 * u2 + u5 - u0, by grind⟩)
    obtain ⟨g1, g2⟩ := least_eq hp num a (fun E t hE => by
      show 3 ≤ t
      refine Nat.le_of_not_lt fun ht => ?_
      have k2 := conv_like lk 2 (hE.an 2 (by omega))
      have k3 := conv_like lk 3 (hE.an 3 (by omega))
      have k4 := conv_like lk 4 (hE.an 4 (by omega))
      rw [conv_few (m := 3) (by rw [hE.len]; omega) _ (by omega)] at k2 k3 k4
      have c0 := hE.c0
      have e2 : sg (fun j => E.getD j 0 * (((2 - j : Nat) : Int) * ((2 - j : Nat) : Int))) 3 = 4 + E.getD 1 0 := by
        show 0 + E.getD 0 0 * (2 * 2) + E.getD 1 0 * (1 * 1) + E.getD 2 0 * (0 * 0) = _
        rw [c0]
        grind
      have e3 : sg (fun j => E.getD j 0 * (((3 - j : Nat) : Int) * ((3 - j : Nat) : Int))) 3 = 9 + 4 * E.getD 1 0 + E.getD 2 0 := by
        show 0 + E.getD 0 0 * (3 * 3) + E.getD 1 0 * (2 * 2) + E.getD 2 0 * (1 * 1) = _
        rw [c0]
        grind
      have e4 : sg (fun j => E.getD j 0 * (((4 - j : Nat) : Int) * ((4 - j : Nat) : Int))) 3 = 16 + 9 * E.getD 1 0 + 4 * E.getD 2 0 := by
        show 0 + E.getD 0 0 * (4 * 4) + E.getD 1 0 * (3 * 3) + E.getD 2 0 * (2 * 2) = _
        rw [c0]
        grind
      rw [e2] at k2
      rw [e3] at k3
      rw [e4] at k4
      obtain ⟨u, hu⟩ := k2
      obtain ⟨w, hw⟩ := k3
      obtain ⟨z, hz⟩ := k4
      have key : (8 : Int) = p * (z - 4 * w + 7 * u) := by grind
      generalize z - 4 * w + 7 * u = y at key
      rcases hp with rfl | rfl | rfl | rfl <;> omega) (n := n) hn
    rw [g1]
    rfl
  · obtain rfl : p = 2 := by omega
    rw [if_neg h2]
    have nt : nums 2 [0, 1] := fun y hy => by
      have : y = 0 ∨ y = 1 := by simpa using hy
      omega
    have a := annT hp nt (f := sqr 2) (fun k hk => by
      have hk : 2 ≤ k := hk
      show (2 : Int) ∣ 0 + 0 * sqr 2 (k - 1 - 0) + 1 * sqr 2 (k - 1 - 1) - sqr 2 k
      obtain ⟨u0, h0⟩ := lk k
      obtain ⟨u2, h2⟩ := lk (k - 1 - 1)
      have e2 : ((k - 1 - 1 : Nat) : Int) = (k : Int) - 2 := by omega
      rw [e2] at h2
      generalize sqr 2 k = f0 at *
      generalize sqr 2 (k - 1 - 1) = f2 at *
      exact ⟨u2 - u0 - 2 * (k : Int) + 2, by grind⟩)
    obtain ⟨g1, g2⟩ := least_eq hp num a (fun E t hE => by
      show 2 ≤ t
      refine Nat.le_of_not_lt fun ht => ?_
      have k1 := conv_like lk 1 (hE.an 1 (by omega))
      rw [conv_few (m := 2) (by rw [hE.len]; omega) _ (by omega)] at k1
      have c0 := hE.c0
      have e1 : sg (fun j => E.getD j 0 * (((1 - j : Nat) : Int) * ((1 - j : Nat) : Int))) 2 = 1 := by
        show 0 + E.getD 0 0 * (1 * 1) + E.getD 1 0 * (0 * 0) = _
        rw [c0]
        grind
      rw [e1] at k1
      omega) (n := n) (by show 2 * 2 ≤ n; omega)
    rw [g1]
    rfl
/-- a one that comes again -/
def rng1 (n : Nat) (k : Nat) : Int := if k % n = 0 then 1 else 0
theorem rng1_least (hp : isPrime p) {n : Nat} (h1 : 1 ≤ n) : (bmR p (pre (rng1 n) (2 * n))).L = n := by
  have pp := prime_pos hp
  have num : ∀ k, 0 ≤ rng1 n k ∧ rng1 n k < p := fun k => by
    unfold rng1
    split <;> omega
  have nt : nums p (List.replicate (n - 1) 0 ++ [1]) := nums_snoc (zeros_num (by omega) _) ⟨by omega, by omega⟩
  have tl : (List.replicate (n - 1) (0 : Int) ++ [1]).length = n := by simp; omega
  have a := annT hp nt (f := rng1 n) (fun k hk => by
    rw [tl] at hk ⊢
    have e : sg (fun j => (List.replicate (n - 1) (0 : Int) ++ [1]).getD j 0 * rng1 n (k - 1 - j)) n = rng1 n (k - n) := by
      rw [sg_congr (g := fun j => if j = n - 1 then rng1 n (k - n) else 0) (fun j hj => by
        by_cases c : j = n - 1
        · subst c
          rw [if_pos rfl, getD_app_r _ _ _ (by simp), show n - 1 - (List.replicate (n - 1) (0 : Int)).length = 0 by simp, show k - 1 - (n - 1) = k - n by omega]
          show 1 * rng1 n (k - n) = _
          omega
        · rw [if_neg c, getD_app_l _ _ _ (by simp; omega), getD_zeros, Int.zero_mul]), sg_one, if_pos (by omega)]
    have e2 : rng1 n (k - n) = rng1 n k := by
      unfold rng1
      rw [← Nat.mod_eq_sub_mod hk]
    rw [e, e2, Int.sub_self]
    exact Int.dvd_zero p)
  rw [tl] at a
  refine (least_eq hp num a (fun E t hE => ?_) (n := 2 * n) (by omega)).1
  refine Nat.le_of_not_lt fun ht => ?_
  have := hE.an n (by omega)
  have e : conv (fun j => E.getD j 0) (rng1 n) n = 1 := by
    unfold conv
    rw [sg_congr (g := fun j => if j = 0 then 1 else 0) (fun j hj => by
      show E.getD j 0 * rng1 n (n - j) = if j = 0 then 1 else 0
      by_cases c : j = 0
      · subst c
        rw [if_pos rfl, hE.c0]
        unfold rng1
        simp
      · rw [if_neg c]
        by_cases c2 : j = n
        · rw [getD_big E j (by rw [hE.len]; omega), Int.zero_mul]
        · unfold rng1
          rw [if_neg (by rw [Nat.mod_eq_of_lt (by omega)]; omega), Int.mul_zero]), sg_one, if_pos (by omega)]
  rw [e] at this
  exact not_dvd hp ⟨by omega, by omega⟩ this
end
end IPL
end
section
set_option linter.all false
set_option maxRecDepth 20000
set_option maxHeartbeats 400000
namespace IPL
open IP
open PySem (PyData)
local macro_rules | `(tactic| infer_instance) => `(tactic| ((repeat' (first | with_reducible exact rfl | with_reducible assumption | with_reducible apply EV.bo_nt | with_reducible apply EV.bo_nf | with_reducible refine decide_eq_true ?_ | with_reducible refine decide_eq_false ?_ | with_reducible apply EV.bne_t | with_reducible apply EV.bne_f | omega)); done))
local macro_rules | `(tactic| and_intros) => `(tactic| repeat' (first
  | with_reducible assumption
  | ((with_reducible apply EV.gdO); first
      | with_reducible apply EV.o_V
      | ((with_reducible apply EV.o_var); (with_reducible apply EV.get_of); exact rfl)
      | ((with_reducible apply EV.o_own); (with_reducible apply EV.get_of); exact rfl)
      | ((with_reducible apply EV.o_prm); (with_reducible apply EV.get_of); exact rfl))
  | ((with_reducible apply EV.gdV); first
      | with_reducible exact EV.e_C
      | ((with_reducible apply EV.e_var); (with_reducible apply EV.get_of); exact rfl)
      | ((with_reducible apply EV.e_varO); ((with_reducible apply EV.get_of); exact rfl))
      | with_reducible apply EV.e_bin
      | ((with_reducible apply EV.e_call); (focus (and_intros; done)); (focus (and_intros; done)); ((with_reducible apply EV.any_of); exact rfl))
      | ((with_reducible apply EV.e_callD); (focus (and_intros; done)); (focus (and_intros; done)); (focus (and_intros; done)); first | with_reducible exact EV.noT | with_reducible exact EV.noI | with_reducible exact EV.noB | with_reducible exact EV.noN | with_reducible assumption | exact EV.noT)
      | with_reducible apply EV.e_bi
      | (with_reducible apply EV.e_sl)
      | with_reducible apply EV.e_tup
      | with_reducible apply EV.e_un
      | ((with_reducible apply EV.e_callRo); ((with_reducible apply EV.ow_o); (with_reducible apply EV.get_of); exact rfl))
      | ((with_reducible apply EV.e_callRp); ((with_reducible apply EV.ow_p); (with_reducible apply EV.get_of); exact rfl))
      | with_reducible apply EV.e_lc
      | ((with_reducible apply EV.andV_t); (focus infer_instance))
      | ((with_reducible apply EV.andV_f); (focus infer_instance))
      | ((with_reducible apply EV.orV_f); (focus infer_instance))
      | ((with_reducible apply EV.orV_t); (focus infer_instance))
      | ((with_reducible apply EV.iteV_t); (focus infer_instance))
      | ((with_reducible apply EV.iteV_f); (focus infer_instance))
      | ((with_reducible apply EV.chK_t); (focus infer_instance))
      | ((with_reducible apply EV.chK_f); (focus infer_instance))
      | ((with_reducible apply EV.e_fld); (focus (and_intros; done)); (focus exact rfl); (focus exact rfl))
      | ((with_reducible apply EV.e_flen); (focus (and_intros; done)))
      | ((with_reducible apply EV.e_ftup); (focus (and_intros; done)))
      | ((with_reducible apply EV.e_fix); (focus (and_intros; done)); (focus ((with_reducible apply EV.get_of); exact rfl)))
      | ((with_reducible apply EV.e_meth); (focus (and_intros; done)); (focus (and_intros; done)); (focus (and_intros; done)); (focus (and_intros; done)))
      | ((with_reducible apply EV.e_callNF); (focus (and_intros; done)); (focus (and_intros; done)); (focus ((with_reducible apply EV.prop_of); with_reducible assumption)); (focus exact rfl); (focus exact rfl))
      | ((with_reducible apply EV.e_callNM); (focus (and_intros; done)); (focus (and_intros; done)))
      | with_reducible apply EV.e_lc2
      | with_reducible apply EV.e_lst
      | with_reducible apply EV.e_not
      | with_reducible apply EV.e_and
      | with_reducible apply EV.e_or
      | with_reducible apply EV.e_ite
      | (with_reducible apply EV.e_chain))
  | ((with_reducible apply EV.gdG); first
      | ((with_reducible apply EV.get_of); exact rfl))
  | ((with_reducible apply EV.gdD); first
      | with_reducible exact EV.rd_v
      | with_reducible apply EV.rd_o
      | with_reducible apply EV.rd_p)
  | ((with_reducible apply EV.gdA); first
      | with_reducible exact EV.a_n
      | ((with_reducible apply EV.a_app); (focus (and_intros; done)))
      | with_reducible apply EV.a_c)
  | ((with_reducible apply EV.gdR); first
      | ((with_reducible apply EV.gdRb); first
      | ((with_reducible apply EV.gh_bIx); first | ((with_reducible apply EV.p_ixNegM) <;> first | assumption | omega) | ((with_reducible apply EV.p_ix0); first | assumption | omega) | with_reducible exact EV.p_ix20 | with_reducible exact EV.p_ix21 | with_reducible exact EV.p_ix30 | with_reducible exact EV.p_ix31 | with_reducible exact EV.p_ix32 | ((with_reducible apply EV.p_ixLastT); assumption) | ((with_reducible apply EV.p_ixNegT); first | assumption | omega) | ((with_reducible apply EV.p_ixNegL); first | assumption | omega) | ((with_reducible apply EV.p_ixT); first | assumption | omega) | ((with_reducible apply EV.p_ixL); first | assumption | omega) | ((with_reducible apply EV.p_ixT') <;> first | assumption | omega) | ((with_reducible apply EV.p_ixL') <;> first | assumption | omega) | ((with_reducible apply IPL.p_ixTT); first | assumption | omega) | ((with_reducible apply IPL.p_ixLT); first | assumption | omega) | ((with_reducible apply EV.p_ixDT); first | assumption | omega) | ((with_reducible apply EV.p_ixDL); first | assumption | omega))
      | ((with_reducible apply EV.gh_bAdd); first | with_reducible exact EV.p_add | ((with_reducible apply EV.p_addT); (with_reducible apply EV.line_of); first | assumption | omega) | ((with_reducible apply EV.p_addL); (with_reducible apply EV.line_of); first | assumption | omega) | ((with_reducible apply EV.p_addsL); first | assumption | omega) | ((with_reducible apply EV.p_addTs); (with_reducible apply EV.line_of); first | assumption | omega) | ((with_reducible apply EV.p_addsT); (with_reducible apply EV.line_of); first | assumption | omega))
      | with_reducible exact EV.p_sub
      | ((with_reducible apply EV.p_mod); first | assumption | omega)
      | ((with_reducible apply EV.gh_bMul); first | ((with_reducible apply EV.p_repL) <;> omega) | ((with_reducible apply EV.p_repT) <;> omega) | ((with_reducible apply EV.p_mulL); first | assumption | omega) | ((with_reducible apply EV.p_mulR); first | assumption | omega) | ((with_reducible apply EV.p_mulB); first | assumption | omega))
      | ((with_reducible apply EV.p_fdiv) <;> first | assumption | omega)
      | ((with_reducible apply EV.p_fdivB) <;> first | assumption | omega)
      | ((with_reducible apply EV.gh_bPow); first | with_reducible exact EV.p_pow12 | with_reducible exact EV.p_pow17 | with_reducible exact EV.p_pow60 | with_reducible exact EV.p_pow15 | with_reducible exact EV.p_pow18)
      | with_reducible exact EV.p_lt
      | with_reducible exact EV.p_le
      | with_reducible exact EV.p_gt
      | with_reducible exact EV.p_ge
      | ((with_reducible apply EV.gh_bEq); first | with_reducible exact EV.p_eq | with_reducible exact IPL.p_eqT | with_reducible exact IPL.p_eqT1 | with_reducible exact IPL.p_eqL | with_reducible exact IPL.p_eqL0 | with_reducible exact IPL.p_eqT0 | with_reducible exact IPL.p_eqL1 | with_reducible exact IPL.p_eqTT | with_reducible exact IPL.p_eqLT | with_reducible exact EV.p_eqB)
      | ((with_reducible apply EV.gh_bNe); first | with_reducible exact EV.p_ne | with_reducible exact IPL.p_neT | with_reducible exact IPL.p_neT1 | with_reducible exact IPL.p_neL | with_reducible exact IPL.p_neT0 | with_reducible exact IPL.p_neL1 | with_reducible exact IPL.p_neTT | with_reducible exact IPL.p_neLT | with_reducible exact IPL.p_neL0 | with_reducible exact EV.p_neB)
      | ((with_reducible apply EV.p_xor) <;> first | assumption | omega)
      | with_reducible exact EV.p_shrN
      | with_reducible exact EV.p_and1
      | ((with_reducible apply EV.p_and) <;> first | assumption | omega))
      | ((with_reducible apply EV.gdRi); first
      | ((with_reducible apply EV.gh_biLen); first | with_reducible exact EV.b_len2 | with_reducible exact EV.b_len3 | with_reducible exact EV.b_lenT | with_reducible exact EV.b_lenL | with_reducible exact EV.b_lenT' | with_reducible exact EV.b_lenL')
      | with_reducible exact EV.b_int
      | with_reducible exact EV.b_intB
      | with_reducible exact EV.b_tupL
      | with_reducible exact EV.b_tupT
      | with_reducible exact EV.b_lstL
      | with_reducible exact EV.b_lstT
      | with_reducible exact EV.b_sum
      | with_reducible exact EV.b_sum2L
      | with_reducible exact EV.b_sum2T
      | with_reducible exact EV.b_any2L
      | with_reducible exact EV.b_abs
      | with_reducible exact EV.b_max
      | with_reducible exact EV.b_min
      | with_reducible exact EV.b_gcd)
      | ((with_reducible apply EV.gdRu); first
      | ((with_reducible apply EV.gh_uIs); first | with_reducible exact EV.is_ii | with_reducible exact EV.is_bi | with_reducible exact EV.is_tt | with_reducible exact EV.is_tl | with_reducible exact EV.is_lt | with_reducible exact EV.is_ll)
      | ((with_reducible apply EV.gh_uIsN); first | with_reducible exact EV.uisn | with_reducible exact EV.uisn_i | with_reducible exact EV.uisn_t)
      | ((with_reducible apply EV.gh_uNotN); first | with_reducible exact EV.unn | with_reducible exact EV.unn_i | with_reducible exact EV.unn_t)
      | with_reducible exact EV.p_bitsN
      | with_reducible exact EV.p_neg
      | with_reducible exact EV.p_revT
      | with_reducible exact EV.p_revL
      | with_reducible exact EV.p_tupRev)
      | ((with_reducible apply EV.gh_cutR); first | with_reducible exact EV.cut_to1 | with_reducible exact EV.cut_to1L | with_reducible exact EV.cut_fr1 | with_reducible exact EV.cut_fr1L | with_reducible exact EV.cut_toT | with_reducible exact EV.cut_toL | with_reducible exact EV.cut_frT | with_reducible exact EV.cut_frL | with_reducible exact EV.cut_lastT | with_reducible exact EV.cut_last1 | with_reducible exact EV.cut_last1L | ((with_reducible apply EV.cut_toI); first | assumption | omega) | ((with_reducible apply EV.cut_frI); first | assumption | omega) | with_reducible exact EV.cut_lastL)
      | ((with_reducible apply EV.gh_outR); first | with_reducible exact EV.or_n | with_reducible exact EV.or_r | ((with_reducible apply EV.or_of); exact rfl) | ((with_reducible apply EV.or_bt); focus infer_instance)))
  | ((with_reducible apply EV.gdS); first
      | with_reducible apply EV.s_seq
      | ((with_reducible apply EV.gh_seqK); first | with_reducible exact EV.q_rt | with_reducible apply EV.q_nx | with_reducible exact EV.q_bk | with_reducible exact EV.q_ct | with_reducible exact EV.q_ro)
      | with_reducible apply EV.s_set
      | with_reducible apply EV.s_if
      | ((with_reducible apply EV.if_t); (focus infer_instance))
      | ((with_reducible apply EV.if_f); (focus infer_instance))
      | with_reducible exact EV.s_pass
      | with_reducible apply EV.s_ret
      | with_reducible apply EV.s_ex
      | ((with_reducible apply EV.s_appI); ((with_reducible apply EV.ow_o); (with_reducible apply EV.get_of); exact rfl); (focus (and_intros; done)); ((with_reducible apply EV.get_of); exact rfl))
      | ((with_reducible apply EV.s_appO); ((with_reducible apply EV.ow_o); (with_reducible apply EV.get_of); exact rfl))
      | ((with_reducible apply EV.s_fld); (focus (and_intros; done)); (focus (and_intros; done)); (focus exact rfl); (focus (and_intros; done)); (focus exact rfl); (focus exact rfl))
      | ((with_reducible apply EV.s_faug); (focus (and_intros; done)); (focus exact rfl); (focus exact rfl); (focus (and_intros; done)); (focus (and_intros; done)); (focus exact rfl); (focus exact rfl))
      | ((with_reducible apply EV.s_fapp); (focus (and_intros; done)); (focus ((with_reducible apply EV.get_of); exact rfl)); (focus (first | assumption | omega)))
      | ((with_reducible apply EV.s_callN); (focus (and_intros; done)); (focus (and_intros; done)))
      | ((with_reducible apply EV.s_retG); ((with_reducible apply EV.get_of); exact rfl))
      | with_reducible exact EV.s_brk
      | with_reducible exact EV.s_cnt
      | with_reducible exact EV.s_retN
      | with_reducible apply EV.s_unp
      | with_reducible apply EV.s_par
      | ((with_reducible apply EV.s_augI); ((with_reducible apply EV.get_of); exact rfl))
      | ((with_reducible apply EV.s_setIxN); (focus (and_intros; done)); (focus ((with_reducible apply EV.ow_o); (with_reducible apply EV.get_of); exact rfl)); (focus (and_intros; done)); (focus ((with_reducible apply EV.get_of); exact rfl)); (focus (first | assumption | omega)))
      | ((with_reducible apply EV.s_setIxI); (focus (and_intros; done)); (focus ((with_reducible apply EV.ow_o); (with_reducible apply EV.get_of); exact rfl)); (focus (and_intros; done)); (focus ((with_reducible apply EV.get_of); exact rfl)); (focus (first | assumption | omega)))
      | ((with_reducible apply EV.s_augIxN); (focus ((with_reducible apply EV.ow_o); (with_reducible apply EV.get_of); exact rfl)); (focus (and_intros; done)); (focus ((with_reducible apply EV.get_of); exact rfl)); (focus (and_intros; done)); (focus ((with_reducible apply EV.get_of); exact rfl)); (focus (first | assumption | omega)))
      | ((with_reducible apply EV.s_pop); (focus ((with_reducible apply EV.get_of); exact rfl)); (focus assumption))
      | ((with_reducible apply EV.s_setIx); (focus (and_intros; done)); ((with_reducible apply EV.ow_o); (with_reducible apply EV.get_of); exact rfl); (focus (and_intros; done)); ((with_reducible apply EV.get_of); exact rfl))
      | with_reducible apply EV.s_for
      | with_reducible apply EV.s_while)
  | ((with_reducible apply EV.gdL); first
      | ((with_reducible apply EV.gP); ((with_reducible apply EV.get_of); exact rfl))
      | ((with_reducible apply EV.gO); ((with_reducible apply EV.get_of); exact rfl))
      | with_reducible exact EV.ra_n
      | with_reducible apply EV.ra_c
      | with_reducible exact EV.vs_n
      | with_reducible apply EV.vs_c)
  | ((with_reducible apply EV.gdE); first
      | ((with_reducible apply EV.gh_setSlot); first | with_reducible exact EV.st_0u | with_reducible exact EV.st_0d | with_reducible exact EV.st_0o | ((with_reducible apply EV.st_0f); first | assumption | exact EV.fr_d | exact EV.fr_u) | ((with_reducible apply EV.st_0g); assumption) | with_reducible apply EV.st_s)
      | with_reducible exact EV.u_n
      | ((with_reducible apply EV.u_u); ((with_reducible apply EV.get_of); exact rfl))
      | ((with_reducible apply EV.u_d); ((with_reducible apply EV.get_of); exact rfl))
      | with_reducible apply EV.t_nm
      | with_reducible apply EV.t_tup
      | with_reducible exact EV.sd_n
      | with_reducible apply EV.sd_c
      | with_reducible exact EV.sr_n
      | with_reducible apply EV.sr_c)
  | ((with_reducible apply EV.gdT); first
      | with_reducible apply EV.t_B
      | with_reducible apply EV.t_V
      | with_reducible apply EV.t_not
      | with_reducible apply EV.t_and
      | with_reducible apply EV.t_or
      | ((with_reducible apply EV.orT_f); (focus infer_instance))
      | ((with_reducible apply EV.orT_t); (focus infer_instance))
      | ((with_reducible apply EV.andT_t); (focus infer_instance))
      | ((with_reducible apply EV.andT_f); (focus infer_instance)))
  | ((with_reducible apply EV.gdLs); first
      | with_reducible exact EV.ls_0
      | with_reducible apply EV.ls_s)
  | ((with_reducible apply EV.gdSl); first
      | with_reducible exact EV.so_d
      | with_reducible exact EV.so_n)
  | ((with_reducible apply EV.gdBo); first
      | with_reducible exact EV.stl_n
      | ((with_reducible apply EV.stl_o); (with_reducible apply EV.get_of); exact rfl)
      | ((with_reducible apply EV.bo_nf); focus infer_instance)
      | ((with_reducible apply EV.bo_nt); focus infer_instance))
  | ((with_reducible apply EV.gdEn); first
      | ((with_reducible apply EV.pP); (focus ((with_reducible apply EV.get_of); exact rfl)))
      | ((with_reducible apply EV.pO); (focus ((with_reducible apply EV.get_of); exact rfl)))
      | with_reducible exact EV.ba_n
      | ((with_reducible apply EV.ba_c); ((with_reducible apply EV.get_of); exact rfl)))
  | ((with_reducible apply EV.gdDd); first
      | with_reducible exact EV.td_d
      | with_reducible exact EV.td_n)
  | ((with_reducible apply EV.gdI); first
      | ((with_reducible apply EV.i_r1); (focus (and_intros; done)); omega)
      | ((with_reducible apply EV.i_r1'); (focus (and_intros; done)); omega; omega)
      | ((with_reducible apply EV.i_r2); (focus (and_intros; done)); (focus (and_intros; done)); omega; omega; omega; omega)
      | ((with_reducible apply EV.i_rT); (focus (and_intros; done)))
      | ((with_reducible apply EV.i_rL); (focus (and_intros; done)))
      | ((with_reducible apply EV.i_zT); (focus (and_intros; done)); (focus (and_intros; done)))
      | ((with_reducible apply EV.i_zL); (focus (and_intros; done)); (focus (and_intros; done)))
      | ((with_reducible apply EV.i_enT); (focus (and_intros; done)))
      | ((with_reducible apply EV.i_enL); (focus (and_intros; done)))
      | ((with_reducible apply EV.i_rr1); (focus (and_intros; done)); omega)
      | ((with_reducible apply EV.i_ET); (focus (and_intros; done)))
      | ((with_reducible apply EV.i_E); (focus (and_intros; done)))
      | ((with_reducible apply EV.i_EO); (focus (and_intros; done)); (focus (and_intros; done))))
  | ((with_reducible apply EV.gdTr); first
      | ((with_reducible apply EV.gh_truth); first | with_reducible exact EV.tr_b | with_reducible exact EV.tr_T | with_reducible exact EV.tr_L | with_reducible exact EV.tr_i | with_reducible exact EV.tr_n))
  | ((with_reducible apply EV.gdLc); first
      | ((with_reducible apply EV.l_intR); (intro _ _; with_reducible apply EV.lt_y))
      | ((with_reducible apply EV.l_int); (intro _ _; with_reducible apply EV.lt_y)))
  | ((with_reducible apply EV.gdP); first
      | with_reducible exact EV.pe_n
      | with_reducible apply EV.pe_c)
  | ((with_reducible apply EV.gdPo); first
      | with_reducible exact EV.pn
      | with_reducible apply EV.ps)
  | ((with_reducible apply EV.line_of); first | assumption | (simp only [List.length_map, List.length_range, List.length_append, List.length_cons, List.length_nil, List.length_reverse, List.length_zip, List.length_take, List.length_drop, List.length_dropLast]; omega))
  | ((with_reducible apply EV.line_lt); first | assumption | (simp only [List.length_map, List.length_range, List.length_append, List.length_cons, List.length_nil, List.length_reverse, List.length_zip, List.length_take, List.length_drop, List.length_dropLast]; omega))))
abbrev gd (p : Int) (g : BM) : List D := [.int p, iL g.s, .int (g.L : Int), iL g.C, iL g.B, .int (g.m : Int)]
theorem I_taps_of_low (n : Nat) {p : Int} (hp : isPrime p) {C : List Int} (hl : C.length ≤ 1000) : run (n + 1) "taps_of_low" none [.int p, iL C] = some (.dat (iT (tapsC p C)), none) := by
  have pp := prime_pos hp
  have ec : EV.cutR (iL C) (some 1) none = some (.new ((C.drop 1).map .int)) := EV.cut_fr1L
  apply go_taps_of_low
  and_intros
theorem I_expected (n : Nat) {p : Int} {g : BM} (hp : isPrime p) (hC : nums p g.C) (h1 : 1 ≤ g.C.length) (hl : g.C.length ≤ g.s.length + 1) (hs : g.s.length ≤ 1000) : run (n + 1) "Growth.expected" (some (gd p g)) [] = some (.dat (.int (expd p g.s g.C)), some (gd p g)) := by
  have pp := prime_pos hp
  have el : ((List.range g.C.length).filter fun k => decide (0 < k)).map (fun k => PyData.int (g.C.getD k 0 * g.s.getD (g.s.length - k) 0)) = ((List.range (g.C.length - 1)).map fun k => g.C.getD (k + 1) 0 * g.s.getD (g.s.length - 1 - k) 0).map .int := by
    rw [show g.C.length = (g.C.length - 1) + 1 by omega, List.range_succ_eq_map]
    simp only [Nat.add_sub_cancel, List.filter_cons, Nat.lt_irrefl, decide_false, List.filter_map, List.map_map]
    rw [List.filter_eq_self.mpr (fun k _ => by simp)]
    simp only [Bool.false_eq_true, if_false, List.map_map]
    apply List.map_congr_left
    intro k _
    simp [Nat.sub_sub, Nat.add_comm]
  have e1 : vLc [2, 3] (iEnum (oV (vFld 0 3))) (.tup [2, 3]) (W_Growth_expected_2 (run n)) (W_Growth_expected_1 (run n)) [.pob (gd p g), .un, .un, .un] = some (.new (((List.range (g.C.length - 1)).map fun k => g.C.getD (k + 1) 0 * g.s.getD (g.s.length - 1 - k) 0).map .int), [.pob (gd p g), .un, .un, .un]) := by
    have h := EV.l_flt (vs := [2, 3]) (g := .tup [2, 3]) (t := W_Growth_expected_2 (run n)) (e := W_Growth_expected_1 (run n)) (src := (List.range g.C.length).map (EV.encE g.C)) (ow := none) (δ := [.pob (gd p g), .un, .un, .un]) (enc := EV.encE g.C) (l := List.range g.C.length) (c := fun k => decide (0 < k)) (f := fun k => PyData.int (g.C.getD k 0 * g.s.getD (g.s.length - k) 0)) (fun k hk hc => by
      have hk := List.mem_range.mp hk
      have hc' : 0 < k := by simpa using hc
      have hb := nums_getD (by omega) hC k
      apply EV.lt_t
      and_intros
      exact decide_eq_true (by omega)) (fun k hk hc => by
      have hc' : k = 0 := by simpa using hc
      subst hc'
      apply EV.lt_f
      and_intros
      rfl) rfl
    rw [el] at h
    apply EV.e_lc
    and_intros
  apply go_Growth_expected
  and_intros
theorem I_may_jump (n : Nat) (p : Int) (g : BM) : run (n + 1) "Growth.may_jump" (some (gd p g)) [] = some (.dat (.bool (decide (2 * g.L ≤ g.s.length))), some (gd p g)) := by
  have e : decide (2 * g.L ≤ g.s.length) = decide (2 * (g.L : Int) ≤ (g.s.length : Int)) := by
    apply decide_eq_decide.mpr
    omega
  rw [e]
  apply go_Growth_may_jump
  and_intros
theorem I_corrected (n : Nat) {p : Int} {g : BM} (hp : isPrime p) (hC : nums p g.C) (hB : nums p g.B) (hlC : g.C.length ≤ 1000) (hlB : g.B.length ≤ 1000) (hm : g.m ≤ 1000) {d : Int} (hd : 0 ≤ d ∧ d < p) : run (n + 1) "Growth._corrected" (some (gd p g)) [.int d] = some (.dat (iL (corr p g.C g.B g.m d)), some (gd p g)) := by
  have pp := prime_pos hp
  have er : ((List.replicate ((g.m : Int) + (g.B.length : Int) - (g.C.length : Int)).toNat [PyData.int 0]).flatten) = (List.replicate (g.m + g.B.length - g.C.length) (0 : Int)).map .int := by
    rw [show ((g.m : Int) + (g.B.length : Int) - (g.C.length : Int)).toNat = g.m + g.B.length - g.C.length by omega]
    simp
  let low0 : List Int := g.C ++ List.replicate (g.m + g.B.length - g.C.length) 0
  have hl0 : low0.length = max g.C.length (g.m + g.B.length) := by
    show (g.C ++ List.replicate (g.m + g.B.length - g.C.length) 0).length = _
    simp
    omega
  have get0 : ∀ i, low0.getD i 0 = g.C.getD i 0 := fun i => by
    show (g.C ++ List.replicate (g.m + g.B.length - g.C.length) 0).getD i 0 = _
    by_cases hi : i < g.C.length
    · rw [getD_app_l _ _ _ hi]
    · rw [getD_app_r _ _ _ (by omega), getD_zeros, getD_big g.C i (by omega)]
  have num0 : ∀ i, 0 ≤ g.C.getD i 0 ∧ g.C.getD i 0 < p := nums_getD (by omega) hC
  have e0 : fBin bAdd (oV (vFld 0 3)) (oV (fBin bMul (oV (vLst (aCons (oV (vC (.int 0))) aNil))) (oV (fBin bSub (oV (fBin bAdd (oV (vFld 0 5)) (oV (vBi biLen (aCons (oV (vFld 0 4)) aNil))))) (oV (vBi biLen (aCons (oV (vFld 0 3)) aNil))))))) [.pob (gd p g), .dat (.int d), .un, .un, .un] = some (.new (low0.map .int), [.pob (gd p g), .dat (.int d), .un, .un, .un]) := by
    have em : bMul (.list [.int 0]) (.int ((g.m : Int) + (g.B.length : Int) - (g.C.length : Int))) = some (.new ((List.replicate (g.m + g.B.length - g.C.length) (0 : Int)).map .int)) := by
      rw [← er]
      simp only [bMul]
      rw [if_pos ⟨by omega, by omega, by simp only [List.length_cons, List.length_nil]; have : line = 16000000 := rfl; omega⟩]
    have ea : bAdd (iL g.C) (iL (List.replicate (g.m + g.B.length - g.C.length) (0 : Int))) = some (.new (low0.map .int)) := by
      simp only [bAdd, List.length_map, List.length_replicate]
      rw [if_pos (by have : line = 16000000 := rfl; omega), ← List.map_append]
    and_intros
  obtain ⟨δ', e2, t3, t4, h3, h4, rs, rfl, hrl, hrg⟩ := EV.f_range (g := .tup [3, 4]) (bb := W_Growth__corrected_1 (run n)) (enc := EV.encE g.B) (fun k δ => ∃ t3 t4 : Slot, EV.Free t3 ∧ EV.Free t4 ∧ ∃ rs : List Int, δ = [.pob (gd p g), .dat (.int d), .own (rs.map .int), t3, t4] ∧ rs.length = low0.length ∧ ∀ i, rs.getD i 0 = (g.C.getD i 0 - (if g.m ≤ i ∧ i < g.m + k then d * g.B.getD (i - g.m) 0 else 0)) % p) g.B.length [.pob (gd p g), .dat (.int d), .own (low0.map .int), .un, .un] ⟨.un, .un, EV.fr_u, EV.fr_u, low0, rfl, rfl, fun i => by
    rw [if_neg (by omega), Int.sub_zero, get0, emod_small (num0 i)]⟩ (by
    rintro k δ hk ⟨t3, t4, h3, h4, rs, rfl, hrl, hrg⟩
    have hb := nums_getD (by omega) hB k
    have hlt : g.m + k < rs.length := by rw [hrl, hl0]; omega
    have ix : (g.m : Int) + (k : Int) = ((g.m + k : Nat) : Int) := by omega
    have ei : fBin bAdd (oV (vFld 0 5)) (oVar 3) [.pob (gd p g), .dat (.int d), .own (rs.map .int), .dat (.int (k : Int)), .dat (.int (g.B.getD k 0))] = some (.dat (.int ((g.m + k : Nat) : Int)), [.pob (gd p g), .dat (.int d), .own (rs.map .int), .dat (.int (k : Int)), .dat (.int (g.B.getD k 0))]) := by
      rw [← ix]
      and_intros
    apply EV.st_nx (δ1 := [.pob (gd p g), .dat (.int d), .own (rs.map .int), .dat (.int (k : Int)), .dat (.int (g.B.getD k 0))]) (δ2 := [.pob (gd p g), .dat (.int d), .own ((rs.set (g.m + k) ((rs.getD (g.m + k) 0 - d * g.B.getD k 0) % p)).map .int), .dat (.int (k : Int)), .dat (.int (g.B.getD k 0))])
    · and_intros
    · and_intros
    · refine ⟨_, _, EV.fr_d, EV.fr_d, _, rfl, by rw [List.length_set, hrl], fun i => ?_⟩
      rw [getD_set _ _ _ _ hlt]
      by_cases hi : i = g.m + k
      · subst hi
        rw [if_pos rfl, if_pos ⟨by omega, by omega⟩, hrg, if_neg (by omega), Int.sub_zero, emod_small (num0 _), show g.m + k - g.m = k by omega]
      · rw [if_neg hi, hrg]
        by_cases hi2 : g.m ≤ i ∧ i < g.m + k
        · rw [if_pos hi2, if_pos ⟨hi2.1, by omega⟩]
        · rw [if_neg hi2, if_neg (by omega)])
  have ers : rs = corr p g.C g.B g.m d := by
    apply list_ext
    · rw [hrl, hl0, corr_len]
    · intro i hi
      rw [hrg, corr_getD]
      by_cases h1 : g.m ≤ i
      · by_cases h2 : i < g.m + g.B.length
        · rw [if_pos ⟨h1, h2⟩, if_pos h1]
        · rw [if_neg (by omega), if_pos h1, getD_big g.B (i - g.m) (by omega), Int.mul_zero]
      · rw [if_neg (by omega), if_neg h1]
  subst ers
  apply go_Growth__corrected
  and_intros
theorem I_take (n : Nat) {p : Int} {g : BM} (hp : isPrime p) (h : BMi p g) (hs : g.s.length ≤ 400) {x : Int} (hx : 0 ≤ x ∧ x < p) : run (n + 2) "Growth.take" (some (gd p g)) [.int x] = some (.dat .none, some (gd p (bmS p g x))) := by
  have pp := prime_pos hp
  have hle := h.le
  have hlC := h.lC
  have hsz := h.sz
  have hlB := h.lB
  have hm := h.m1
  have e1 := I_expected n hp h.nC (by omega) (by omega) (by omega)
  have e2 := I_may_jump n p g
  have hd := miss_num (p := p) (by omega) g x
  have em : bMod (.int (x - expd p g.s g.C)) (.int p) = some (.dat (.int (miss p g x))) := EV.p_mod (by omega)
  have hl : g.s.length < 16000000 := by omega
  have e3 := I_corrected n hp h.nC h.nB (by omega) (by omega) (by omega) hd
  unfold bmS
  by_cases h0 : miss p g x = 0
  · rw [if_pos h0]
    rw [h0] at em
    show run (n + 2) "Growth.take" (some (gd p g)) [.int x] = some (.dat .none, some [.int p, iL (g.s ++ [x]), .int (g.L : Int), iL g.C, iL g.B, .int ((g.m : Int) + 1)])
    clear e3 hd
    apply go_Growth_take
    and_intros
  · rw [if_neg h0]
    by_cases hj : 2 * g.L ≤ g.s.length
    · rw [if_pos hj]
      rw [decide_eq_true hj] at e2
      have hi := I_inverse n hp (ivf_spec hp (d := miss p g x) (by rw [emod_small hd]; exact h0))
      have i7 := (ivf_spec hp (d := miss p g x) (by rw [emod_small hd]; exact h0)).2.1
      have ec : ∀ (fs : List D) (t : Slot), fs = [.int p, iL g.s, .int (g.L : Int), iL (corr p g.C g.B g.m (miss p g x)), iL g.B, .int ((g.m : Int) + 1)] → vLc [6] (iE (oVar 4)) (.nm 6) tYes (W_Growth_take_1 (run (n + 1))) [.pob fs, .dat (.int x), .dat (.int (miss p g x)), .dat (.bool true), .dat (iL g.C), .dat (.int (ivf p (miss p g x) : Int)), .un] = some (.new ((g.C.map fun c => (ivf p (miss p g x) : Int) * c % p).map .int), [.pob fs, .dat (.int x), .dat (.int (miss p g x)), .dat (.bool true), .dat (iL g.C), .dat (.int (ivf p (miss p g x) : Int)), .un]) := by
        rintro fs _ rfl
        have hh := EV.l_int (vs := [6]) (g := .nm 6) (e := W_Growth_take_1 (run (n + 1))) (src := g.C.map .int) (ow := none) (δ := [.pob [.int p, iL g.s, .int (g.L : Int), iL (corr p g.C g.B g.m (miss p g x)), iL g.B, .int ((g.m : Int) + 1)], .dat (.int x), .dat (.int (miss p g x)), .dat (.bool true), .dat (iL g.C), .dat (.int (ivf p (miss p g x) : Int)), .un]) (enc := PyData.int) (l := g.C) (f := fun c => (ivf p (miss p g x) : Int) * c % p) (fun c hc => by
          have hb := h.nC c hc
          apply EV.lt_y
          and_intros) rfl
        have hlc : (g.C.map PyData.int).length ≤ 16000000 := by rw [List.length_map]; omega
        apply EV.e_lc
        and_intros
      have ec := ec _ .un rfl
      show run (n + 2) "Growth.take" (some (gd p g)) [.int x] = some (.dat .none, some [.int p, iL (g.s ++ [x]), .int ((g.s.length + 1 - g.L : Nat) : Int), iL (corr p g.C g.B g.m (miss p g x)), iL (g.C.map fun c => (ivf p (miss p g x) : Int) * c % p), .int 1])
      rw [show ((g.s.length + 1 - g.L : Nat) : Int) = (g.s.length : Int) + 1 - (g.L : Int) by omega]
      apply go_Growth_take
      and_intros
    · rw [if_neg hj]
      rw [decide_eq_false hj] at e2
      show run (n + 2) "Growth.take" (some (gd p g)) [.int x] = some (.dat .none, some [.int p, iL (g.s ++ [x]), .int (g.L : Int), iL (corr p g.C g.B g.m (miss p g x)), iL g.B, .int ((g.m : Int) + 1)])
      apply go_Growth_take
      and_intros
theorem bmR_snoc (p : Int) (row : List Int) (x : Int) : bmR p (row ++ [x]) = bmS p (bmR p row) x := by
  unfold bmR
  rw [List.foldl_append]
  rfl
theorem take_next {row : List Int} {i : Nat} {x : Int} (h : row[i]? = some x) : row.take (i + 1) = row.take i ++ [x] := by
  rw [List.take_succ, h]
  rfl
theorem I_new (n : Nat) (p : Int) : run (n + 2) "Growth" none [.int p] = some (.dat .none, some (gd p bm0)) := by
  rw [run_new]
  rfl
theorem I_taps (n : Nat) {p : Int} {g : BM} (hp : isPrime p) (hl : g.C.length ≤ 1000) : run (n + 2) "Growth.taps" (some (gd p g)) [] = some (.dat (iT (tapsC p g.C)), some (gd p g)) := by
  have e1 := I_taps_of_low n hp hl
  apply go_Growth_taps
  and_intros
theorem grow_loop (n : Nat) {p : Int} {row : List Int} (hp : isPrime p) (h : nums p row) (hl : row.length ≤ 400) (d0 d1 : D) : ∃ t3 : Slot, forGo (.nm 3) (W_grown_1 (run (n + 2))) (row.map .int) [.dat d0, .dat d1, .obj (gd p bm0), .un] = some (.nx, [.dat d0, .dat d1, .obj (gd p (bmR p row)), t3]) := by
  obtain ⟨δ', e, t3, h3, rfl⟩ := EV.f_inv (g := .nm 3) (bb := W_grown_1 (run (n + 2))) (enc := PyData.int) (fun k δ => ∃ t3 : Slot, EV.Free t3 ∧ δ = [.dat d0, .dat d1, .obj (gd p (bmR p (row.take k))), t3]) row 0 [.dat d0, .dat d1, .obj (gd p bm0), .un] ⟨.un, EV.fr_u, rfl⟩ (by
    rintro i x δ hi ⟨t3, h3, rfl⟩
    rw [Nat.zero_add]
    have hx := h x (List.mem_of_getElem? hi)
    have hn : nums p (row.take i) := fun y hy => h y (List.mem_of_mem_take hy)
    have hb := bmi hp hn
    have hil : i < row.length := (List.getElem?_eq_some_iff.mp hi).1
    have e1 := I_take n hp hb (by rw [bmR_s, List.length_take]; omega) hx
    rw [← bmR_snoc, ← take_next hi] at e1
    apply EV.st_nx (δ1 := [.dat d0, .dat d1, .obj (gd p (bmR p (row.take i))), .dat (.int x)]) (δ2 := [.dat d0, .dat d1, .obj (gd p (bmR p (row.take (i + 1)))), .dat (.int x)])
    · and_intros
    · and_intros
    · exact ⟨_, EV.fr_d, rfl⟩)
  rw [Nat.zero_add, List.take_length] at e
  exact ⟨t3, e⟩
theorem I_grown (n : Nat) {p : Int} {row : List Int} (hp : isPrime p) (h : nums p row) (hl : row.length ≤ 400) : run (n + 3) "grown" none [.int p, iT row] = some (.dat .none, some (gd p (bmR p row))) := by
  have e0 := I_new n p
  obtain ⟨t3, e1⟩ := grow_loop n hp h hl (.int p) (iT row)
  have e2 : setSlot [.dat (.int p), .dat (iT row), .un, .un] 2 (.obj (gd p bm0)) = some [.dat (.int p), .dat (iT row), .obj (gd p bm0), .un] := rfl
  apply go_grown
  and_intros
theorem I__check (n : Nat) {p : Int} {row : List Int} (hp : isPrime p) (h : nums p row) (hl : row.length ≤ 400) : run (n + 4) "_check" none [.int p, iT row] = some (.dat .none, none) := by
  have e1 := I_check_prime (n + 1) hp
  have e2 := I_check_row n h hl
  apply go__check
  and_intros
theorem I_least_length (n : Nat) {p : Int} {row : List Int} (hp : isPrime p) (h : nums p row) (hl : row.length ≤ 400) : run (n + 5) "least_length" none [.int p, iT row] = some (.dat (.int ((bmR p row).L : Int)), none) := by
  have e1 := I__check n hp h hl
  have e2 := I_grown (n + 1) hp h hl
  apply go_least_length
  and_intros
theorem bm_sizes {p : Int} {row : List Int} (hp : isPrime p) (h : nums p row) : (bmR p row).C.length = (bmR p row).L + 1 ∧ (bmR p row).L ≤ row.length ∧ (bmR p row).B.length ≤ row.length + 1 := by
  have b := bmi hp h
  have s := b.sz
  have l := b.le
  have m := b.m1
  rw [bmR_s] at s l
  exact ⟨b.lC, l, by omega⟩
theorem I_shortest (n : Nat) {p : Int} {row : List Int} (hp : isPrime p) (h : nums p row) (hl : row.length ≤ 400) : run (n + 5) "shortest" none [.int p, iT row] = some (.dat (iT (tapsC p (bmR p row).C)), none) := by
  have e1 := I__check n hp h hl
  have e2 := I_grown (n + 1) hp h hl
  have s := bm_sizes hp h
  have e3 := I_taps (n + 2) (g := bmR p row) hp (by omega)
  apply go_shortest
  and_intros
theorem I_profile (n : Nat) {p : Int} (hp : isPrime p) {r : List Int} (hr : nums p r) (hl : r.length ≤ 400) : run (n + 4) "profile" none [.int p, iT r] = some (.dat (iT (profI p r)), none) := by
  have pp := prime_pos hp
  have e1 := I_check_prime (n + 1) hp
  have e2 := I_check_row n hr hl
  have e3 := I_new (n + 1) p
  obtain ⟨δ', e, t4, h4, rfl⟩ := EV.f_inv (g := .nm 4) (bb := W_profile_1 (run (n + 3))) (enc := PyData.int) (fun k δ => ∃ t4 : Slot, EV.Free t4 ∧ δ = [.dat (.int p), .dat (iT r), .obj (gd p (bmR p (r.take k))), .own (((List.range k).map fun k => ((bmR p (r.take (k + 1))).L : Int)).map .int), t4]) r 0 [.dat (.int p), .dat (iT r), .obj (gd p bm0), .own [], .un] ⟨.un, EV.fr_u, rfl⟩ (by
    rintro k x δ hk ⟨t, h, rfl⟩
    rw [Nat.zero_add]
    have hkl : k < r.length := (List.getElem?_eq_some_iff.mp hk).1
    have hx := hr x (List.mem_of_getElem? hk)
    have hb := bmi hp (fun y hy => hr y (List.mem_of_mem_take hy) : nums p (r.take k))
    have e1 := I_take (n + 1) hp hb (by rw [bmR_s, List.length_take]; omega) hx
    rw [← bmR_snoc, ← take_next hk] at e1
    have hlt : ((List.range k).map fun k => ((bmR p (r.take (k + 1))).L : Int)).length < 16000000 := by simp; omega
    apply EV.st_nx (δ1 := [.dat (.int p), .dat (iT r), .obj (gd p (bmR p (r.take k))), .own (((List.range k).map fun k => ((bmR p (r.take (k + 1))).L : Int)).map .int), .dat (.int x)]) (δ2 := [.dat (.int p), .dat (iT r), .obj (gd p (bmR p (r.take (k + 1)))), .own (((List.range (k + 1)).map fun k => ((bmR p (r.take (k + 1))).L : Int)).map .int), .dat (.int x)])
    · and_intros
    · rw [List.range_succ, List.map_append, List.map_cons, List.map_nil]
      and_intros
    · exact ⟨_, EV.fr_d, rfl⟩)
  rw [Nat.zero_add, List.take_length, show (List.range r.length).map (fun k => ((bmR p (r.take (k + 1))).L : Int)) = profI p r from rfl] at e
  have h0 : 0 ≤ 16000000 := by omega
  have es : setSlot [.dat (.int p), .dat (iT r), .un, .un, .un] 2 (.obj (gd p bm0)) = some [.dat (.int p), .dat (iT r), .obj (gd p bm0), .un, .un] := rfl
  apply go_profile
  and_intros
theorem I__weights (n : Nat) {p : Int} {row : List Int} {len k : Nat} (hp : isPrime p) (hr : nums p row) (hl : row.length ≤ 400) (hlen : len ≤ row.length) (J : JumpAt p row len k (bmR p (row.take (k + 1))).B) : run (n + 1) "_weights" (some (gd p (bmR p (row.take (k + 1))))) [.int (len : Int), .int (row.length : Int)] = some (.dat (iT (wB (bmR p (row.take (k + 1))).B k len row.length)), some (gd p (bmR p (row.take (k + 1))))) := by
  have hs := bmR_s p (row.take (k + 1))
  obtain ⟨g, hg⟩ : ∃ g, g = bmR p (row.take (k + 1)) := ⟨_, rfl⟩
  rw [← hg] at J hs ⊢
  have hsl : g.s.length = k + 1 := by rw [hs, List.length_take]; have := J.hk; omega
  have hk := J.hk
  have hle := J.le
  have hlB := J.lB
  have em : bMul (.list [.int 0]) (.int ((row.length : Int) - (len : Int))) = some (.new ((List.replicate (row.length - len) (0 : Int)).map .int)) := by
    simp only [bMul]
    rw [if_pos ⟨by omega, by omega, by simp only [List.length_cons, List.length_nil]; have : line = 16000000 := rfl; omega⟩, show ((row.length : Int) - (len : Int)).toNat = row.length - len by omega]
    simp
  have ej : fBin bSub (oV (vFLen 0)) (oV (vC (.int 1))) [.pob (gd p g), .dat (.int (len : Int)), .dat (.int (row.length : Int)), .own ((List.replicate (row.length - len) (0 : Int)).map .int), .un, .un, .un] = some (.dat (.int (k : Int)), [.pob (gd p g), .dat (.int (len : Int)), .dat (.int (row.length : Int)), .own ((List.replicate (row.length - len) (0 : Int)).map .int), .un, .un, .un]) := by
    rw [show (k : Int) = (g.s.length : Int) - 1 by omega]
    and_intros
  obtain ⟨δ', e2, t5, t6, h5, h6, rs, rfl, hrl, hrg⟩ := EV.f_range (g := .tup [5, 6]) (bb := W__weights_1 (run n)) (enc := EV.encE g.B) (fun b δ => ∃ t5 t6 : Slot, EV.Free t5 ∧ EV.Free t6 ∧ ∃ rs : List Int, δ = [.pob (gd p g), .dat (.int (len : Int)), .dat (.int (row.length : Int)), .own (rs.map .int), .dat (.int (k : Int)), t5, t6] ∧ rs.length = row.length - len ∧ ∀ i, rs.getD i 0 = if i ≤ k - len ∧ k - len - i < b then g.B.getD (k - len - i) 0 else 0) g.B.length [.pob (gd p g), .dat (.int (len : Int)), .dat (.int (row.length : Int)), .own ((List.replicate (row.length - len) (0 : Int)).map .int), .dat (.int (k : Int)), .un, .un] ⟨.un, .un, EV.fr_u, EV.fr_u, _, rfl, by simp, fun i => by rw [if_neg (by omega), getD_zeros]⟩ (by
    rintro b δ hb ⟨t5, t6, h5, h6, rs, rfl, hrl, hrg⟩
    have hlt : k - b - len < rs.length := by omega
    have ei : fBin bSub (oV (fBin bSub (oVar 4) (oVar 5))) (oVar 1) [.pob (gd p g), .dat (.int (len : Int)), .dat (.int (row.length : Int)), .own (rs.map .int), .dat (.int (k : Int)), .dat (.int (b : Int)), .dat (.int (g.B.getD b 0))] = some (.dat (.int ((k - b - len : Nat) : Int)), [.pob (gd p g), .dat (.int (len : Int)), .dat (.int (row.length : Int)), .own (rs.map .int), .dat (.int (k : Int)), .dat (.int (b : Int)), .dat (.int (g.B.getD b 0))]) := by
      rw [show ((k - b - len : Nat) : Int) = (k : Int) - (b : Int) - (len : Int) by omega]
      and_intros
    apply EV.st_nx (δ1 := [.pob (gd p g), .dat (.int (len : Int)), .dat (.int (row.length : Int)), .own (rs.map .int), .dat (.int (k : Int)), .dat (.int (b : Int)), .dat (.int (g.B.getD b 0))]) (δ2 := [.pob (gd p g), .dat (.int (len : Int)), .dat (.int (row.length : Int)), .own ((rs.set (k - b - len) (g.B.getD b 0)).map .int), .dat (.int (k : Int)), .dat (.int (b : Int)), .dat (.int (g.B.getD b 0))])
    · and_intros
    · and_intros
    · refine ⟨_, _, EV.fr_d, EV.fr_d, _, rfl, by rw [List.length_set, hrl], fun i => ?_⟩
      rw [getD_set _ _ _ _ hlt]
      by_cases hi : i = k - b - len
      · subst hi
        rw [if_pos rfl, if_pos ⟨by omega, by omega⟩, show k - len - (k - b - len) = b by omega]
      · rw [if_neg hi, hrg]
        by_cases hi2 : i ≤ k - len ∧ k - len - i < b
        · rw [if_pos hi2, if_pos ⟨hi2.1, by omega⟩]
        · rw [if_neg hi2, if_neg (by omega)])
  have ers : rs = wB g.B k len row.length := by
    apply list_ext
    · rw [hrl, wB_len]
    · intro i hi
      have ew : (wB g.B k len row.length).getD i 0 = if i ≤ k - len then g.B.getD (k - len - i) 0 else 0 := by
        unfold wB
        rw [getD_range (fun i => if i ≤ k - len then g.B.getD (k - len - i) 0 else 0), if_pos (by omega)]
      rw [hrg, ew]
      by_cases h1 : i ≤ k - len
      · rw [if_pos h1]
        by_cases h2 : k - len - i < g.B.length
        · rw [if_pos ⟨h1, h2⟩]
        · rw [if_neg (by omega), getD_big g.B _ (by omega)]
      · rw [if_neg (by omega), if_neg h1]
  subst ers
  apply go__weights
  and_intros
theorem lower_loop (n : Nat) {p : Int} {row : List Int} {len k : Nat} (hp : isPrime p) (h : nums p row) (hl : row.length ≤ 400) (hlen : len ≤ row.length) (hk : k < row.length) (h1 : len < (bmR p (row.take (k + 1))).L) (h2 : ∀ i, i ≤ k → (bmR p (row.take i)).L ≤ len) : ∀ (m i : Nat) (t4 : Slot), EV.Free t4 → i + m = k → ∃ δ, forGo (.nm 4) (W_lower_bound_1 (run (n + 2))) ((row.drop i).map .int) [.dat (.int p), .dat (iT row), .dat (.int (len : Int)), .obj (gd p (bmR p (row.take i))), t4] = some (.rt (.dat (iT (wB (bmR p (row.take (k + 1))).B k len row.length))), δ) := by
  intro m
  induction m with
  | zero =>
    intro i t4 ht e
    obtain rfl : i = k := by omega
    have hx := h row[i] (List.getElem_mem hk)
    have hb := bmi hp (fun y hy => h y (List.mem_of_mem_take hy) : nums p (row.take i))
    have e1 := I_take n hp hb (by rw [bmR_s, List.length_take]; omega) hx
    have et : row.take (i + 1) = row.take i ++ [row[i]] := by rw [List.take_succ, List.getElem?_eq_getElem hk]; rfl
    rw [← bmR_snoc, ← et] at e1
    have J := jump_at hp h hk h1 (h2 i (by omega))
    have e2 := I__weights (n + 1) hp h hl hlen J
    refine ⟨[.dat (.int p), .dat (iT row), .dat (.int (len : Int)), .obj (gd p (bmR p (row.take (i + 1)))), .dat (.int row[i])], ?_⟩
    rw [List.drop_eq_getElem_cons hk, List.map_cons, forGo]
    have e3 : Tg.put (.nm 4) (.int row[i]) [.dat (.int p), .dat (iT row), .dat (.int (len : Int)), .obj (gd p (bmR p (row.take i))), t4] = some [.dat (.int p), .dat (iT row), .dat (.int (len : Int)), .obj (gd p (bmR p (row.take i))), .dat (.int row[i])] := by and_intros
    have e4 : W_lower_bound_1 (run (n + 2)) [.dat (.int p), .dat (iT row), .dat (.int (len : Int)), .obj (gd p (bmR p (row.take i))), .dat (.int row[i])] = some (.rt (.dat (iT (wB (bmR p (row.take (i + 1))).B i len row.length))), [.dat (.int p), .dat (iT row), .dat (.int (len : Int)), .obj (gd p (bmR p (row.take (i + 1)))), .dat (.int row[i])]) := by and_intros
    rw [e3]
    simp only [Option.bind_some, e4]
  | succ m ih =>
    intro i t4 ht e
    have hi : i < row.length := by omega
    have hx := h row[i] (List.getElem_mem hi)
    have hb := bmi hp (fun y hy => h y (List.mem_of_mem_take hy) : nums p (row.take i))
    have e1 := I_take n hp hb (by rw [bmR_s, List.length_take]; omega) hx
    have et : row.take (i + 1) = row.take i ++ [row[i]] := by rw [List.take_succ, List.getElem?_eq_getElem hi]; rfl
    rw [← bmR_snoc, ← et] at e1
    have hn := h2 (i + 1) (by omega)
    obtain ⟨δ, e5⟩ := ih (i + 1) (.dat (.int row[i])) EV.fr_d (by omega)
    refine ⟨δ, ?_⟩
    rw [List.drop_eq_getElem_cons hi, List.map_cons, forGo]
    have e3 : Tg.put (.nm 4) (.int row[i]) [.dat (.int p), .dat (iT row), .dat (.int (len : Int)), .obj (gd p (bmR p (row.take i))), t4] = some [.dat (.int p), .dat (iT row), .dat (.int (len : Int)), .obj (gd p (bmR p (row.take i))), .dat (.int row[i])] := by and_intros
    have e4 : W_lower_bound_1 (run (n + 2)) [.dat (.int p), .dat (iT row), .dat (.int (len : Int)), .obj (gd p (bmR p (row.take i))), .dat (.int row[i])] = some (.nx, [.dat (.int p), .dat (iT row), .dat (.int (len : Int)), .obj (gd p (bmR p (row.take (i + 1)))), .dat (.int row[i])]) := by and_intros
    rw [e3]
    simp only [Option.bind_some, e4]
    exact e5
theorem I_lower_bound (n : Nat) {p : Int} {row : List Int} {len k : Nat} (hp : isPrime p) (h : nums p row) (hl : row.length ≤ 400) (hlen : len ≤ row.length) (hk : k < row.length) (h1 : len < (bmR p (row.take (k + 1))).L) (h2 : ∀ i, i ≤ k → (bmR p (row.take i)).L ≤ len) : run (n + 5) "lower_bound" none [.int p, iT row, .int (len : Int)] = some (.dat (iT (wB (bmR p (row.take (k + 1))).B k len row.length)), none) := by
  have e1 := I__check n hp h hl
  have e2 := I_check_number (n + 2) (v := len) (a := 0) (b := row.length) (by omega) (by omega)
  have e0 := I_new (n + 2) p
  obtain ⟨δ, e3⟩ := lower_loop (n + 2) hp h hl hlen hk h1 h2 k 0 .un EV.fr_u (by omega)
  have e4 : setSlot [.dat (.int p), .dat (iT row), .dat (.int (len : Int)), .un, .un] 3 (.obj (gd p bm0)) = some [.dat (.int p), .dat (iT row), .dat (.int (len : Int)), .obj (gd p (bmR p (row.take 0))), .un] := rfl
  rw [List.drop_zero] at e3
  apply go_lower_bound
  and_intros
theorem I_law_are_numbers (n : Nat) {p : Int} (hp : 0 < p) {r : List Int} (hr : nums p r) (hl : r.length ≤ 1000) : run (n + 1) "_law_are_numbers" none [.int p, iT r, .int (r.length : Int)] = some (.dat (.bool true), none) := by
  have hl2 : (r.map PyData.int).length ≤ 16000000 := by rw [List.length_map]; omega
  have e1 : ∀ s3 : Slot, EV.Free s3 → vLc [4] (iE (oVar 1)) (.nm 4) (W__law_are_numbers_2 (run n)) (W__law_are_numbers_1 (run n)) [.dat (.int p), .dat (iT r), .dat (.int (r.length : Int)), s3, .un] = some (.new [], [.dat (.int p), .dat (iT r), .dat (.int (r.length : Int)), s3, .un]) := fun s3 f3 => by
    have h := EV.l_flt (vs := [4]) (g := .nm 4) (t := W__law_are_numbers_2 (run n)) (e := W__law_are_numbers_1 (run n)) (src := r.map .int) (ow := none) (δ := [.dat (.int p), .dat (iT r), .dat (.int (r.length : Int)), s3, .un]) (enc := PyData.int) (l := r) (c := fun _ => false) (f := PyData.int)
      (fun u hu hc => by cases hc) (fun u hu hc => by
        apply EV.lt_f
        and_intros) rfl
    rw [List.filter_eq_nil_iff.mpr (fun _ _ => by simp), List.map_nil] at h
    apply EV.e_lc
    and_intros
  have e2 : ∀ s3 : Slot, vLc [4] (iE (oVar 1)) (.nm 4) (W__law_are_numbers_4 (run n)) (W__law_are_numbers_3 (run n)) [.dat (.int p), .dat (iT r), .dat (.int (r.length : Int)), s3, .un] = some (.new [], [.dat (.int p), .dat (iT r), .dat (.int (r.length : Int)), s3, .un]) := fun s3 => by
    have h := EV.l_flt (vs := [4]) (g := .nm 4) (t := W__law_are_numbers_4 (run n)) (e := W__law_are_numbers_3 (run n)) (src := r.map .int) (ow := none) (δ := [.dat (.int p), .dat (iT r), .dat (.int (r.length : Int)), s3, .un]) (enc := PyData.int) (l := r) (c := fun _ => false) (f := PyData.int)
      (fun u hu hc => by cases hc) (fun u hu hc => by
        have hb := hr u hu
        apply EV.lt_f
        and_intros) rfl
    rw [List.filter_eq_nil_iff.mpr (fun _ _ => by simp), List.map_nil] at h
    apply EV.e_lc
    and_intros
  have e1' := e1 .un EV.fr_u
  have e2' := e2 (.own [])
  have h0 : 0 ≤ 16000000 := by omega
  apply go__law_are_numbers
  and_intros
theorem half_bit (e k : Nat) : e / 2 ^ k = 2 * (e / 2 ^ (k + 1)) + e / 2 ^ k % 2 := by
  rw [Nat.pow_succ, ← Nat.div_div_eq_div_mul]
  omega
theorem power_of_loop (n : Nat) {p : Int} (hp : isPrime p) (e : Nat) (he : e ≤ 10000) : ∀ (k : Nat) (t3 : Slot), EV.Free t3 →
    ∃ t3' : Slot, forGo (.nm 3) (W_power_of_1 (run n)) ((List.range k).reverse.map EV.encN) [.dat (.int p), .dat (.int (e : Int)), .dat (.int (p ^ (e / 2 ^ k))), t3] = some (.nx, [.dat (.int p), .dat (.int (e : Int)), .dat (.int (p ^ e)), t3'])
  | 0, t3, _ => ⟨t3, by simp [forGo]⟩
  | k + 1, t3, f3 => by
    have pp := prime_pos hp
    have hle : e / 2 ^ (k + 1) ≤ e := Nat.div_le_self _ _
    have hb1 := (ub_pow hp (e / 2 ^ (k + 1))).log (by omega)
    have hg : (Tg.nm 3).put (EV.encN k) [.dat (.int p), .dat (.int (e : Int)), .dat (.int (p ^ (e / 2 ^ (k + 1)))), t3] = some [.dat (.int p), .dat (.int (e : Int)), .dat (.int (p ^ (e / 2 ^ (k + 1)))), .dat (.int (k : Int))] := by and_intros
    rw [List.range_succ, List.reverse_append, List.reverse_cons, List.reverse_nil, List.nil_append, List.singleton_append, List.map_cons, forGo, hg]
    simp only [Option.bind_some]
    obtain ⟨t3', ih⟩ := power_of_loop n hp e he k (.dat (.int (k : Int))) EV.fr_d
    have hh := half_bit e k
    have m1 : bMul (.int (p ^ (e / 2 ^ (k + 1)))) (.int (p ^ (e / 2 ^ (k + 1)))) = some (.dat (.int (p ^ (e / 2 ^ (k + 1)) * p ^ (e / 2 ^ (k + 1))))) := EV.p_mulB (by omega)
    have bb : W_power_of_1 (run n) [.dat (.int p), .dat (.int (e : Int)), .dat (.int (p ^ (e / 2 ^ (k + 1)))), .dat (.int (k : Int))] = some (.nx, [.dat (.int p), .dat (.int (e : Int)), .dat (.int (p ^ (e / 2 ^ k))), .dat (.int (k : Int))]) := by
      rcases Nat.mod_two_eq_zero_or_one (e / 2 ^ k) with hb0 | hb1
      · have hz : ((e / 2 ^ k % 2 : Nat) : Int) = 0 := by omega
        have ex : p ^ (e / 2 ^ (k + 1)) * p ^ (e / 2 ^ (k + 1)) = p ^ (e / 2 ^ k) := by rw [← Int.pow_add]; congr 1; omega
        rw [ex] at m1
        and_intros
      · have hz : ((e / 2 ^ k % 2 : Nat) : Int) ≠ 0 := by omega
        have ex : p ^ (e / 2 ^ (k + 1)) * p ^ (e / 2 ^ (k + 1)) * p = p ^ (e / 2 ^ k) := by rw [← Int.pow_add, ← Int.pow_succ]; congr 1; omega
        rw [← ex]
        and_intros
    rw [bb]
    exact ⟨t3', ih⟩
theorem I_power_of (n : Nat) {p : Int} (hp : isPrime p) {e : Nat} (he : e ≤ 10000) : run (n + 1) "power_of" none [.int p, .int (e : Int)] = some (.dat (.int (p ^ e)), none) := by
  have hb : e < 2 ^ 62 := Nat.lt_of_le_of_lt he (by decide)
  have hbn := EV.bl_le hb
  obtain ⟨t3', e3⟩ := power_of_loop n hp e he (EV.bl e) .un EV.fr_u
  rw [Nat.div_eq_of_lt (EV.bl_lt e), Int.pow_zero] at e3
  apply go_power_of
  and_intros
theorem I_all_shortest (n : Nat) {p : Int} (hp : isPrime p) {row : List Int} (h : nums p row) (hl : row.length ≤ 400) {c : Int} (hc : 0 ≤ c ∧ c < p) (hL : (bmR p row).L = 1) (hT : tapsC p (bmR p row).C = [c]) (h2 : 2 ≤ row.length) : run (n + 5) "all_shortest" none [.int p, iT row] = some (.new [.tuple [.int c]], none) := by
  have pp := prime_pos hp
  have e1 := I__check n hp h hl
  have e2 := I_grown (n + 1) hp h hl
  have s := bm_sizes hp h
  have e3 := I_taps (n + 2) (g := bmR p row) hp (by omega)
  rw [hT] at e3
  simp only [iT, List.map_cons, List.map_nil] at e3
  have e4 := I_power_of (n + 3) hp (e := 0) (by omega)
  rw [Int.pow_zero, show ((0 : Nat) : Int) = 0 from rfl] at e4
  have mx : biMax [.int 0, .int (2 * ((bmR p row).L : Int) - (row.length : Int))] = some (.dat (.int 0)) := by
    rw [EV.b_max, if_neg (by omega)]
  have hl1 : (bmR p row).L = 1 := hL
  have sr : biSrt1 [.list [.tuple [.int c]]] = some (.new [.tuple [.int c]]) := by
    show (if 0 ≤ c ∧ c < 1000 then some (Res.new [PyData.tuple [PyData.int c]]) else none) = _
    rw [if_pos ⟨by omega, by omega⟩]
  have h1 : 1 ≤ 16000000 := by omega
  have gS : ∀ (a b : Slot), setSlot [a, b, .un, .un, .un, .un, .un, .un, .un] 2 (.obj (gd p (bmR p row))) = some [a, b, .obj (gd p (bmR p row)), .un, .un, .un, .un, .un, .un] := fun _ _ => rfl
  have gs := gS (.dat (.int p)) (.dat (iT row))
  have ir : iRange1 (oVar 3) [.dat (.int p), .dat (iT row), .obj (gd p (bmR p row)), .dat (.int 0), .own [.tuple [.int c]], .un, .un, .un, .un] = some (([], none), [.dat (.int p), .dat (iT row), .obj (gd p (bmR p row)), .dat (.int 0), .own [.tuple [.int c]], .un, .un, .un, .un]) := by
    have := EV.i_r1 (f := oVar 3) (n := 0) (δ := [.dat (.int p), .dat (iT row), .obj (gd p (bmR p row)), .dat (.int 0), .own [.tuple [.int c]], .un, .un, .un, .un]) (δ1 := [.dat (.int p), .dat (iT row), .obj (gd p (bmR p row)), .dat (.int 0), .own [.tuple [.int c]], .un, .un, .un, .un]) rfl (by omega)
    exact this
  have fo : forGo (.nm 5) (W_all_shortest_3 (run (n + 4))) [] [.dat (.int p), .dat (iT row), .obj (gd p (bmR p row)), .dat (.int 0), .own [.tuple [.int c]], .un, .un, .un, .un] = some (.nx, [.dat (.int p), .dat (iT row), .obj (gd p (bmR p row)), .dat (.int 0), .own [.tuple [.int c]], .un, .un, .un, .un]) := rfl
  clear hT gS
  apply go_all_shortest
  and_intros
end IPL
end
section
set_option linter.all false
set_option maxRecDepth 100000
set_option maxHeartbeats 100000
namespace IPL
open IP
open PySem (PyData)
local macro_rules | `(tactic| infer_instance) => `(tactic| ((repeat' (first | with_reducible exact rfl | with_reducible assumption | with_reducible apply EV.bo_nt | with_reducible apply EV.bo_nf | with_reducible refine decide_eq_true ?_ | with_reducible refine decide_eq_false ?_ | with_reducible apply EV.bne_t | with_reducible apply EV.bne_f | omega)); done))
local macro_rules | `(tactic| and_intros) => `(tactic| repeat' (first
  | with_reducible assumption
  | ((with_reducible apply EV.gdO); first
      | with_reducible apply EV.o_V
      | ((with_reducible apply EV.o_var); (with_reducible apply EV.get_of); exact rfl)
      | ((with_reducible apply EV.o_own); (with_reducible apply EV.get_of); exact rfl)
      | ((with_reducible apply EV.o_prm); (with_reducible apply EV.get_of); exact rfl))
  | ((with_reducible apply EV.gdV); first
      | with_reducible exact EV.e_C
      | ((with_reducible apply EV.e_var); (with_reducible apply EV.get_of); exact rfl)
      | ((with_reducible apply EV.e_varO); ((with_reducible apply EV.get_of); exact rfl))
      | with_reducible apply EV.e_bin
      | ((with_reducible apply EV.e_call); (focus (and_intros; done)); (focus (and_intros; done)); ((with_reducible apply EV.any_of); exact rfl))
      | ((with_reducible apply EV.e_callD); (focus (and_intros; done)); (focus (and_intros; done)); (focus (and_intros; done)); first | with_reducible exact EV.noT | with_reducible exact EV.noI | with_reducible exact EV.noB | with_reducible exact EV.noN | with_reducible assumption | exact EV.noT)
      | with_reducible apply EV.e_bi
      | (with_reducible apply EV.e_sl)
      | with_reducible apply EV.e_tup
      | with_reducible apply EV.e_un
      | ((with_reducible apply EV.e_callRo); ((with_reducible apply EV.ow_o); (with_reducible apply EV.get_of); exact rfl))
      | ((with_reducible apply EV.e_callRp); ((with_reducible apply EV.ow_p); (with_reducible apply EV.get_of); exact rfl))
      | with_reducible apply EV.e_lc
      | ((with_reducible apply EV.andV_t); (focus infer_instance))
      | ((with_reducible apply EV.andV_f); (focus infer_instance))
      | ((with_reducible apply EV.orV_f); (focus infer_instance))
      | ((with_reducible apply EV.orV_t); (focus infer_instance))
      | ((with_reducible apply EV.iteV_t); (focus infer_instance))
      | ((with_reducible apply EV.iteV_f); (focus infer_instance))
      | ((with_reducible apply EV.chK_t); (focus infer_instance))
      | ((with_reducible apply EV.chK_f); (focus infer_instance))
      | ((with_reducible apply EV.e_fld); (focus (and_intros; done)); (focus exact rfl); (focus exact rfl))
      | ((with_reducible apply EV.e_flen); (focus (and_intros; done)))
      | ((with_reducible apply EV.e_ftup); (focus (and_intros; done)))
      | ((with_reducible apply EV.e_fix); (focus (and_intros; done)); (focus ((with_reducible apply EV.get_of); exact rfl)))
      | ((with_reducible apply EV.e_meth); (focus (and_intros; done)); (focus (and_intros; done)); (focus (and_intros; done)); (focus (and_intros; done)))
      | ((with_reducible apply EV.e_callNF); (focus (and_intros; done)); (focus (and_intros; done)); (focus ((with_reducible apply EV.prop_of); with_reducible assumption)); (focus exact rfl); (focus exact rfl))
      | ((with_reducible apply EV.e_callNM); (focus (and_intros; done)); (focus (and_intros; done)))
      | with_reducible apply EV.e_lc2
      | with_reducible apply EV.e_lst
      | with_reducible apply EV.e_not
      | with_reducible apply EV.e_and
      | with_reducible apply EV.e_or
      | with_reducible apply EV.e_ite
      | (with_reducible apply EV.e_chain))
  | ((with_reducible apply EV.gdG); first
      | ((with_reducible apply EV.get_of); exact rfl))
  | ((with_reducible apply EV.gdD); first
      | with_reducible exact EV.rd_v
      | with_reducible apply EV.rd_o
      | with_reducible apply EV.rd_p)
  | ((with_reducible apply EV.gdA); first
      | with_reducible exact EV.a_n
      | ((with_reducible apply EV.a_app); (focus (and_intros; done)))
      | with_reducible apply EV.a_c)
  | ((with_reducible apply EV.gdR); first
      | ((with_reducible apply EV.gdRb); first
      | ((with_reducible apply EV.gh_bIx); first | ((with_reducible apply EV.p_ixNegM) <;> first | assumption | omega) | ((with_reducible apply EV.p_ix0); first | assumption | omega) | with_reducible exact EV.p_ix20 | with_reducible exact EV.p_ix21 | with_reducible exact EV.p_ix30 | with_reducible exact EV.p_ix31 | with_reducible exact EV.p_ix32 | ((with_reducible apply EV.p_ixLastT); assumption) | ((with_reducible apply EV.p_ixNegT); first | assumption | omega) | ((with_reducible apply EV.p_ixNegL); first | assumption | omega) | ((with_reducible apply EV.p_ixT); first | assumption | omega) | ((with_reducible apply EV.p_ixL); first | assumption | omega) | ((with_reducible apply EV.p_ixT') <;> first | assumption | omega) | ((with_reducible apply EV.p_ixL') <;> first | assumption | omega) | ((with_reducible apply IPL.p_ixTT); first | assumption | omega) | ((with_reducible apply IPL.p_ixLT); first | assumption | omega) | ((with_reducible apply EV.p_ixDT); first | assumption | omega) | ((with_reducible apply EV.p_ixDL); first | assumption | omega))
      | ((with_reducible apply EV.gh_bAdd); first | with_reducible exact EV.p_add | ((with_reducible apply EV.p_addT); (with_reducible apply EV.line_of); first | assumption | omega) | ((with_reducible apply EV.p_addL); (with_reducible apply EV.line_of); first | assumption | omega) | ((with_reducible apply EV.p_addsL); first | assumption | omega) | ((with_reducible apply EV.p_addTs); (with_reducible apply EV.line_of); first | assumption | omega) | ((with_reducible apply EV.p_addsT); (with_reducible apply EV.line_of); first | assumption | omega))
      | with_reducible exact EV.p_sub
      | ((with_reducible apply EV.p_mod); first | assumption | omega)
      | ((with_reducible apply EV.gh_bMul); first | ((with_reducible apply EV.p_repL) <;> omega) | ((with_reducible apply EV.p_repT) <;> omega) | ((with_reducible apply EV.p_mulL); first | assumption | omega) | ((with_reducible apply EV.p_mulR); first | assumption | omega) | ((with_reducible apply EV.p_mulB); first | assumption | omega))
      | ((with_reducible apply EV.p_fdiv) <;> first | assumption | omega)
      | ((with_reducible apply EV.p_fdivB) <;> first | assumption | omega)
      | ((with_reducible apply EV.gh_bPow); first | with_reducible exact EV.p_pow12 | with_reducible exact EV.p_pow17 | with_reducible exact EV.p_pow60 | with_reducible exact EV.p_pow15 | with_reducible exact EV.p_pow18)
      | with_reducible exact EV.p_lt
      | with_reducible exact EV.p_le
      | with_reducible exact EV.p_gt
      | with_reducible exact EV.p_ge
      | ((with_reducible apply EV.gh_bEq); first | with_reducible exact EV.p_eq | with_reducible exact IPL.p_eqT | with_reducible exact IPL.p_eqT1 | with_reducible exact IPL.p_eqL | with_reducible exact IPL.p_eqL0 | with_reducible exact IPL.p_eqT0 | with_reducible exact IPL.p_eqL1 | with_reducible exact IPL.p_eqTT | with_reducible exact IPL.p_eqLT | with_reducible exact EV.p_eqB)
      | ((with_reducible apply EV.gh_bNe); first | with_reducible exact EV.p_ne | with_reducible exact IPL.p_neT | with_reducible exact IPL.p_neT1 | with_reducible exact IPL.p_neL | with_reducible exact IPL.p_neT0 | with_reducible exact IPL.p_neL1 | with_reducible exact IPL.p_neTT | with_reducible exact IPL.p_neLT | with_reducible exact IPL.p_neL0 | with_reducible exact EV.p_neB)
      | ((with_reducible apply EV.p_xor) <;> first | assumption | omega)
      | with_reducible exact EV.p_shrN
      | with_reducible exact EV.p_and1
      | ((with_reducible apply EV.p_and) <;> first | assumption | omega))
      | ((with_reducible apply EV.gdRi); first
      | ((with_reducible apply EV.gh_biLen); first | with_reducible exact EV.b_len2 | with_reducible exact EV.b_len3 | with_reducible exact EV.b_lenT | with_reducible exact EV.b_lenL | with_reducible exact EV.b_lenT' | with_reducible exact EV.b_lenL')
      | with_reducible exact EV.b_int
      | with_reducible exact EV.b_intB
      | with_reducible exact EV.b_tupL
      | with_reducible exact EV.b_tupT
      | with_reducible exact EV.b_lstL
      | with_reducible exact EV.b_lstT
      | with_reducible exact EV.b_sum
      | with_reducible exact EV.b_sum2L
      | with_reducible exact EV.b_sum2T
      | with_reducible exact EV.b_any2L
      | with_reducible exact EV.b_abs
      | with_reducible exact EV.b_max
      | with_reducible exact EV.b_min
      | with_reducible exact EV.b_gcd)
      | ((with_reducible apply EV.gdRu); first
      | ((with_reducible apply EV.gh_uIs); first | with_reducible exact EV.is_ii | with_reducible exact EV.is_bi | with_reducible exact EV.is_tt | with_reducible exact EV.is_tl | with_reducible exact EV.is_lt | with_reducible exact EV.is_ll)
      | ((with_reducible apply EV.gh_uIsN); first | with_reducible exact EV.uisn | with_reducible exact EV.uisn_i | with_reducible exact EV.uisn_t)
      | ((with_reducible apply EV.gh_uNotN); first | with_reducible exact EV.unn | with_reducible exact EV.unn_i | with_reducible exact EV.unn_t)
      | with_reducible exact EV.p_bitsN
      | with_reducible exact EV.p_neg
      | with_reducible exact EV.p_revT
      | with_reducible exact EV.p_revL
      | with_reducible exact EV.p_tupRev)
      | ((with_reducible apply EV.gh_cutR); first | with_reducible exact EV.cut_to1 | with_reducible exact EV.cut_to1L | with_reducible exact EV.cut_fr1 | with_reducible exact EV.cut_fr1L | with_reducible exact EV.cut_toT | with_reducible exact EV.cut_toL | with_reducible exact EV.cut_frT | with_reducible exact EV.cut_frL | with_reducible exact EV.cut_lastT | with_reducible exact EV.cut_last1 | with_reducible exact EV.cut_last1L | ((with_reducible apply EV.cut_toI); first | assumption | omega) | ((with_reducible apply EV.cut_frI); first | assumption | omega) | with_reducible exact EV.cut_lastL)
      | ((with_reducible apply EV.gh_outR); first | with_reducible exact EV.or_n | with_reducible exact EV.or_r | ((with_reducible apply EV.or_of); exact rfl) | ((with_reducible apply EV.or_bt); focus infer_instance)))
  | ((with_reducible apply EV.gdS); first
      | with_reducible apply EV.s_seq
      | ((with_reducible apply EV.gh_seqK); first | with_reducible exact EV.q_rt | with_reducible apply EV.q_nx | with_reducible exact EV.q_bk | with_reducible exact EV.q_ct | with_reducible exact EV.q_ro)
      | with_reducible apply EV.s_set
      | with_reducible apply EV.s_if
      | ((with_reducible apply EV.if_t); (focus infer_instance))
      | ((with_reducible apply EV.if_f); (focus infer_instance))
      | with_reducible exact EV.s_pass
      | with_reducible apply EV.s_ret
      | with_reducible apply EV.s_ex
      | ((with_reducible apply EV.s_appI); ((with_reducible apply EV.ow_o); (with_reducible apply EV.get_of); exact rfl); (focus (and_intros; done)); ((with_reducible apply EV.get_of); exact rfl))
      | ((with_reducible apply EV.s_appO); ((with_reducible apply EV.ow_o); (with_reducible apply EV.get_of); exact rfl))
      | ((with_reducible apply EV.s_fld); (focus (and_intros; done)); (focus (and_intros; done)); (focus exact rfl); (focus (and_intros; done)); (focus exact rfl); (focus exact rfl))
      | ((with_reducible apply EV.s_faug); (focus (and_intros; done)); (focus exact rfl); (focus exact rfl); (focus (and_intros; done)); (focus (and_intros; done)); (focus exact rfl); (focus exact rfl))
      | ((with_reducible apply EV.s_fapp); (focus (and_intros; done)); (focus ((with_reducible apply EV.get_of); exact rfl)); (focus (first | assumption | omega)))
      | ((with_reducible apply EV.s_callN); (focus (and_intros; done)); (focus (and_intros; done)))
      | ((with_reducible apply EV.s_retG); ((with_reducible apply EV.get_of); exact rfl))
      | with_reducible exact EV.s_brk
      | with_reducible exact EV.s_cnt
      | with_reducible exact EV.s_retN
      | with_reducible apply EV.s_unp
      | with_reducible apply EV.s_par
      | ((with_reducible apply EV.s_augI); ((with_reducible apply EV.get_of); exact rfl))
      | ((with_reducible apply EV.s_setIxN); (focus (and_intros; done)); (focus ((with_reducible apply EV.ow_o); (with_reducible apply EV.get_of); exact rfl)); (focus (and_intros; done)); (focus ((with_reducible apply EV.get_of); exact rfl)); (focus (first | assumption | omega)))
      | ((with_reducible apply EV.s_setIxI); (focus (and_intros; done)); (focus ((with_reducible apply EV.ow_o); (with_reducible apply EV.get_of); exact rfl)); (focus (and_intros; done)); (focus ((with_reducible apply EV.get_of); exact rfl)); (focus (first | assumption | omega)))
      | ((with_reducible apply EV.s_augIxN); (focus ((with_reducible apply EV.ow_o); (with_reducible apply EV.get_of); exact rfl)); (focus (and_intros; done)); (focus ((with_reducible apply EV.get_of); exact rfl)); (focus (and_intros; done)); (focus ((with_reducible apply EV.get_of); exact rfl)); (focus (first | assumption | omega)))
      | ((with_reducible apply EV.s_pop); (focus ((with_reducible apply EV.get_of); exact rfl)); (focus assumption))
      | ((with_reducible apply EV.s_setIx); (focus (and_intros; done)); ((with_reducible apply EV.ow_o); (with_reducible apply EV.get_of); exact rfl); (focus (and_intros; done)); ((with_reducible apply EV.get_of); exact rfl))
      | with_reducible apply EV.s_for
      | with_reducible apply EV.s_while)
  | ((with_reducible apply EV.gdL); first
      | ((with_reducible apply EV.gP); ((with_reducible apply EV.get_of); exact rfl))
      | ((with_reducible apply EV.gO); ((with_reducible apply EV.get_of); exact rfl))
      | with_reducible exact EV.ra_n
      | with_reducible apply EV.ra_c
      | with_reducible exact EV.vs_n
      | with_reducible apply EV.vs_c)
  | ((with_reducible apply EV.gdE); first
      | ((with_reducible apply EV.gh_setSlot); first | with_reducible exact EV.st_0u | with_reducible exact EV.st_0d | with_reducible exact EV.st_0o | ((with_reducible apply EV.st_0f); first | assumption | exact EV.fr_d | exact EV.fr_u) | ((with_reducible apply EV.st_0g); assumption) | with_reducible apply EV.st_s)
      | with_reducible exact EV.u_n
      | ((with_reducible apply EV.u_u); ((with_reducible apply EV.get_of); exact rfl))
      | ((with_reducible apply EV.u_d); ((with_reducible apply EV.get_of); exact rfl))
      | with_reducible apply EV.t_nm
      | with_reducible apply EV.t_tup
      | with_reducible exact EV.sd_n
      | with_reducible apply EV.sd_c
      | with_reducible exact EV.sr_n
      | with_reducible apply EV.sr_c)
  | ((with_reducible apply EV.gdT); first
      | with_reducible apply EV.t_B
      | with_reducible apply EV.t_V
      | with_reducible apply EV.t_not
      | with_reducible apply EV.t_and
      | with_reducible apply EV.t_or
      | ((with_reducible apply EV.orT_f); (focus infer_instance))
      | ((with_reducible apply EV.orT_t); (focus infer_instance))
      | ((with_reducible apply EV.andT_t); (focus infer_instance))
      | ((with_reducible apply EV.andT_f); (focus infer_instance)))
  | ((with_reducible apply EV.gdLs); first
      | with_reducible exact EV.ls_0
      | with_reducible apply EV.ls_s)
  | ((with_reducible apply EV.gdSl); first
      | with_reducible exact EV.so_d
      | with_reducible exact EV.so_n)
  | ((with_reducible apply EV.gdBo); first
      | with_reducible exact EV.stl_n
      | ((with_reducible apply EV.stl_o); (with_reducible apply EV.get_of); exact rfl)
      | ((with_reducible apply EV.bo_nf); focus infer_instance)
      | ((with_reducible apply EV.bo_nt); focus infer_instance))
  | ((with_reducible apply EV.gdEn); first
      | ((with_reducible apply EV.pP); (focus ((with_reducible apply EV.get_of); exact rfl)))
      | ((with_reducible apply EV.pO); (focus ((with_reducible apply EV.get_of); exact rfl)))
      | with_reducible exact EV.ba_n
      | ((with_reducible apply EV.ba_c); ((with_reducible apply EV.get_of); exact rfl)))
  | ((with_reducible apply EV.gdDd); first
      | with_reducible exact EV.td_d
      | with_reducible exact EV.td_n)
  | ((with_reducible apply EV.gdI); first
      | ((with_reducible apply EV.i_r1); (focus (and_intros; done)); omega)
      | ((with_reducible apply EV.i_r1'); (focus (and_intros; done)); omega; omega)
      | ((with_reducible apply EV.i_r2); (focus (and_intros; done)); (focus (and_intros; done)); omega; omega; omega; omega)
      | ((with_reducible apply EV.i_rT); (focus (and_intros; done)))
      | ((with_reducible apply EV.i_rL); (focus (and_intros; done)))
      | ((with_reducible apply EV.i_zT); (focus (and_intros; done)); (focus (and_intros; done)))
      | ((with_reducible apply EV.i_zL); (focus (and_intros; done)); (focus (and_intros; done)))
      | ((with_reducible apply EV.i_enT); (focus (and_intros; done)))
      | ((with_reducible apply EV.i_enL); (focus (and_intros; done)))
      | ((with_reducible apply EV.i_rr1); (focus (and_intros; done)); omega)
      | ((with_reducible apply EV.i_ET); (focus (and_intros; done)))
      | ((with_reducible apply EV.i_E); (focus (and_intros; done)))
      | ((with_reducible apply EV.i_EO); (focus (and_intros; done)); (focus (and_intros; done))))
  | ((with_reducible apply EV.gdTr); first
      | ((with_reducible apply EV.gh_truth); first | with_reducible exact EV.tr_b | with_reducible exact EV.tr_T | with_reducible exact EV.tr_L | with_reducible exact EV.tr_i | with_reducible exact EV.tr_n))
  | ((with_reducible apply EV.gdLc); first
      | ((with_reducible apply EV.l_intR); (intro _ _; with_reducible apply EV.lt_y))
      | ((with_reducible apply EV.l_int); (intro _ _; with_reducible apply EV.lt_y)))
  | ((with_reducible apply EV.gdP); first
      | with_reducible exact EV.pe_n
      | with_reducible apply EV.pe_c)
  | ((with_reducible apply EV.gdPo); first
      | with_reducible exact EV.pn
      | with_reducible apply EV.ps)
  | ((with_reducible apply EV.line_of); first | assumption | (simp only [List.length_map, List.length_range, List.length_append, List.length_cons, List.length_nil, List.length_reverse, List.length_zip, List.length_take, List.length_drop, List.length_dropLast]; omega))
  | ((with_reducible apply EV.line_lt); first | assumption | (simp only [List.length_map, List.length_range, List.length_append, List.length_cons, List.length_nil, List.length_reverse, List.length_zip, List.length_take, List.length_drop, List.length_dropLast]; omega))))
abbrev E18 (ns : List Int) (xs : List D) (p : Int) (N : Nat) (x : Int) (lt : List Int) (s6 s7 s8 s9 s10 s11 s12 s13 : Slot) : Env := [.dat (scr ns), .own xs, .dat (.int p), .dat (.int (N : Int)), .dat (.int x), .dat (iT lt), s6, s7, s8, s9, s10, s11, s12, s13]
theorem geo_loop (n : Nat) (ns : List Int) (xs : List D) {p : Int} (hp : isPrime p) {N : Nat} (hN : N ≤ 40) {x : Int} (hx : 0 < x ∧ x < p) (lt : List Int) {c : Int} (hc : 0 ≤ c ∧ c < p) : ∃ t : Slot, EV.Free t ∧ forGo (.nm 8) (W_law_1 (run n)) ((List.range N).map EV.encN) (E18 ns xs p N x lt (.own [.int x]) (.dat (.int c)) .un .un .un .un .un .un) = some (.nx, E18 ns xs p N x lt (.own ((pre (sq p [c] [x]) (N + 1)).map .int)) (.dat (.int c)) t .un .un .un .un .un) := by
  have pp := prime_pos hp
  have nx : nums p [x] := fun y hy => by rw [List.mem_singleton.mp hy]; omega
  have s0 : pre (sq p [c] [x]) 1 = [x] := rfl
  obtain ⟨δ', e, t, ht, rfl⟩ := EV.f_range (g := .nm 8) (bb := W_law_1 (run n)) (enc := EV.encN) (fun k δ => ∃ t : Slot, EV.Free t ∧ δ = E18 ns xs p N x lt (.own ((pre (sq p [c] [x]) (k + 1)).map .int)) (.dat (.int c)) t .un .un .un .un .un) N (E18 ns xs p N x lt (.own [.int x]) (.dat (.int c)) .un .un .un .un .un .un) ⟨.un, EV.fr_u, rfl⟩ (by
    rintro k δ hk ⟨t, h, rfl⟩
    have pl := pre_len (sq p [c] [x]) (k + 1)
    have hb := sq_num (show 0 < p by omega) (ts := [c]) nx k
    have es : pre (sq p [c] [x]) (k + 1 + 1) = pre (sq p [c] [x]) (k + 1) ++ [sq p [c] [x] k * c % p] := by
      have e := sq_next p (ts := [c]) (st := [x]) rfl k
      rw [show [c].length + k = k + 1 by rw [List.length_singleton]; omega] at e
      have e2 : sq p [c] [x] (k + 1) = sq p [c] [x] k * c % p := by
        rw [e]
        show (0 + c * sq p [c] [x] (k + 1 - 1 - 0)) % p = _
        rw [Int.zero_add, Int.mul_comm]
        rfl
      rw [← e2]
      unfold pre
      rw [List.range_succ, List.map_append]
      rfl
    have il : bIx (iL (pre (sq p [c] [x]) (k + 1))) (.int (-1)) = some (.dat (.int (sq p [c] [x] k))) := by
      have h1 : IP.ixN (k + 1) (-1) = some k := by
        unfold IP.ixN
        rw [if_neg (by omega), if_pos (by omega)]
        congr 1
        omega
      simp only [bIx, atD, List.length_map, pl, h1, Option.bind_some]
      have := pre_getD (sq p [c] [x]) (show k < k + 1 by omega)
      simp only [List.getD, List.getElem?_map] at *
      rw [List.getElem?_eq_getElem (by omega)] at *
      simp at this
      simp [this]
    have hlt : (pre (sq p [c] [x]) (k + 1)).length < 16000000 := by omega
    apply EV.st_nx (δ1 := E18 ns xs p N x lt (.own ((pre (sq p [c] [x]) (k + 1)).map .int)) (.dat (.int c)) (.dat (.int (k : Int))) .un .un .un .un .un) (δ2 := E18 ns xs p N x lt (.own ((pre (sq p [c] [x]) (k + 1 + 1)).map .int)) (.dat (.int c)) (.dat (.int (k : Int))) .un .un .un .un .un)
    · and_intros
    · rw [es]
      and_intros
    · exact ⟨_, EV.fr_d, rfl⟩)
  exact ⟨t, ht, e⟩
theorem lc_pre (e : Ev) (f : Nat → Int) (A B : List Slot) (hA : A.length = 8) (he : ∀ (k : Nat), e (A ++ .dat (.int (k : Int)) :: B) = some (.dat (.int (f k)), A ++ .dat (.int (k : Int)) :: B)) (m : Nat) : lcGo [8] (.nm 8) tYes e ((List.range m).map EV.encN) none ((List.range m).map EV.encN) (A ++ .un :: B) = some ((pre f m).map .int, A ++ .un :: B) := by
  obtain ⟨a, b, c, d, x, y, z, w, rfl⟩ : ∃ a b c d x y z w, A = [a, b, c, d, x, y, z, w] := by
    match A, hA with
    | [a, b, c, d, x, y, z, w], _ => exact ⟨a, b, c, d, x, y, z, w, rfl⟩
  have h := EV.l_intR (vs := [8]) (g := .nm 8) (e := e) (src := (List.range m).map EV.encN) (ow := none) (δ := [a, b, c, d, x, y, z, w] ++ .un :: B) (enc := EV.encN) (f := f) (n := m) (fun k hk => by
    have h1 := he k
    simp only [List.cons_append, List.nil_append] at *
    apply EV.lt_y
    and_intros) rfl
  exact h
theorem okA_one (c : Int) : EV.okA 2 (.list [.tuple [.int c]]) = true := rfl
theorem zeros_alike (n : Nat) (m : Nat) (x : Int) (hm : m ≤ 1000) : run (n + 2) "_law_alike" none [iT (List.replicate m 0 ++ [x]), iT (List.replicate m 0 ++ [x])] = some (.dat (.bool true), none) := I_alike_row n _ (by simp; omega)
theorem law_run_true (n : Nat) (ns : List Int) : run (n + 9) "law" none [scr ns] = some (.dat (.bool true), none) := by
  have hx0 : RowOk ns [scr ns, .int 0, .int 5018, .int 0] := ⟨0, 5018, 0, rfl, by decide⟩
  obtain ⟨p, x1, d1, hp, hx1⟩ := I_prime (n + 5) hx0
  have pp := prime_pos hp
  obtain ⟨m', x2, d2, hm', hx2⟩ := I_taken (n + 7) hx1 (m := 30) (okM_s (by decide) (by decide))
  obtain ⟨N, hN⟩ : ∃ N : Nat, (N : Int) = 2 + m' := ⟨(2 + m').toNat, by omega⟩
  have hNb : 2 ≤ N ∧ N ≤ 31 := by omega
  obtain ⟨x', x3, d3, hx', hx3⟩ := I_taken (n + 7) hx2 (m := p - 1) (okM_s (by omega) (by omega))
  obtain ⟨x, hxe⟩ : ∃ x, x = 1 + x' := ⟨_, rfl⟩
  have hx : 0 < x ∧ x < p := by omega
  -- zeros and a number
  have ln := late_num (p := p) (by omega) (n := N) hx
  have ll := late_len N x
  have r0 : bMul (.tuple [.int 0]) (.int (N : Int)) = some (.dat (iT (List.replicate N 0))) := by
    rw [EV.p_repT (by omega) (by omega), Int.toNat_natCast]
  have r1 : bAdd (iT (List.replicate N 0)) (.tuple [.int x]) = some (.dat (iT (late N x))) := EV.p_addTs (show _ ≤ (16000000 : Nat) by simp; omega)
  have r2 : bAdd (iT (List.replicate N 0)) (.tuple [.int ((N : Int) + 1)]) = some (.dat (iT (List.replicate N 0 ++ [(N : Int) + 1]))) := EV.p_addTs (show _ ≤ (16000000 : Nat) by simp; omega)
  have e1 := I_profile (n + 4) hp ln (by omega)
  rw [prof_late hp hx] at e1
  have a1 := zeros_alike (n + 6) N ((N : Int) + 1) (by omega)
  obtain ⟨w, w0, wb1, wb2, we⟩ := wB_late hp (n := N) hx
  have bl := bm_late hp (n := N) hx
  have tk : (late N x).take (N + 1) = late N x := List.take_of_length_le (by omega)
  have e2 := I_lower_bound (n + 3) hp ln (by omega) (len := N) (by omega) (k := N) (by omega) (by rw [tk, bl]; omega) (fun i hi => by
    unfold late
    rw [List.take_append_of_le_length (by simp; omega), List.take_replicate, bm_zeros hp]
    omega)
  rw [we] at e2
  have nw : nums p [w] := fun y hy => by rw [List.mem_singleton.mp hy]; omega
  have e3 := I_law_are_numbers (n + 7) (show 0 < p by omega) nw (by simp)
  simp only [iT, List.map_cons, List.map_nil, List.length_singleton] at e2 e3
  rw [show ((1 : Nat) : Int) = 1 from rfl] at e3
  have q1 : bEq (.tuple [.int w]) (.tuple [.int 0]) = some (.dat (.bool false)) := by
    have := p_eqT1 (us := [w]) (v := 0)
    rw [decide_eq_false (by simp; exact w0)] at this
    exact this
  have e4 := I_profile (n + 4) hp (zeros_num (p := p) (by omega) N) (by simp; omega)
  rw [prof_zeros hp] at e4
  have a4 := I_alike_row (n + 6) (List.replicate N 0) (by simp; omega)
  -- powers
  obtain ⟨c, x4, d4, hc, hx4⟩ := I_taken (n + 7) hx3 (m := p) (okM_s (by omega) (by omega))
  obtain ⟨t8, f8, l1⟩ := geo_loop (n + 8) ns x4 hp (N := N) (by omega) hx (late N x) hc
  obtain ⟨gL, gT⟩ := geo_least hp hc hx (n := N + 1) (by omega)
  have nx1 : nums p [x] := fun y hy => by rw [List.mem_singleton.mp hy]; omega
  have gn := pre_nums (p := p) (f := sq p [c] [x]) (fun i => sq_num (by omega) nx1 i) (N + 1)
  have gl := pre_len (sq p [c] [x]) (N + 1)
  have e5 := I_all_shortest (n + 3) hp gn (by omega) hc gL gT (by omega)
  have a5 := I_alike (n + 5) 2 _ (okA_one c)
  -- arithmetic rows
  obtain ⟨s, x5, d5, hs, hx5⟩ := I_taken (n + 7) hx4 (m := p) (okM_s (by omega) (by omega))
  obtain ⟨aT, aL⟩ := ari_least hp hx hs (n := N + 4) (by omega)
  have an := pre_nums (p := p) (f := ari p x s) (ari_num hp x s) (N + 4)
  have al := pre_len (ari p x s) (N + 4)
  have e6 := I_shortest (n + 3) hp an (by omega)
  rw [aT] at e6
  have atl : (ariT p s).length ≤ 2 := by unfold ariT; split <;> simp
  have a6 := I_alike_row (n + 6) (ariT p s) (by omega)
  -- squares
  have sL := sqr_least hp (n := N + 6) (by omega)
  have sn := pre_nums (p := p) (f := sqr p) (sqr_num hp) (N + 6)
  have sl := pre_len (sqr p) (N + 6)
  have e7 := I_least_length (n + 3) hp sn (by omega)
  rw [sL] at e7
  have a7 := I_alike_int (n + 7) (if p > 2 then 3 else 2)
  -- a one that comes again
  have rL := rng1_least hp (n := N) (by omega)
  have rn := pre_nums (p := p) (f := rng1 N) (fun k => by unfold rng1; split <;> omega) (2 * N)
  have rl := pre_len (rng1 N) (2 * N)
  have e8 := I_least_length (n + 3) hp rn (by omega)
  rw [rL] at e8
  have a8 := I_alike_int (n + 7) (N : Int)
  -- the comprehensions
  obtain ⟨G, hG⟩ : ∃ G, G = pre (sq p [c] [x]) (N + 1) := ⟨_, rfl⟩
  rw [← hG] at l1 e5
  have s6 : ∀ L : Slot, vLc [8] (iRange1 (oV (fBin bAdd (oVar 3) (oV (vC (.int 4)))))) (.nm 8) tYes (W_law_2 (run (n + 8))) (E18 ns x5 p N x (late N x) L (.dat (.int c)) t8 (.dat (.int s)) .un .un .un .un) = some (.new ((pre (ari p x s) (N + 4)).map .int), E18 ns x5 p N x (late N x) L (.dat (.int c)) t8 (.dat (.int s)) .un .un .un .un) := fun L => by
    have h := lc_pre (W_law_2 (run (n + 8))) (ari p x s) [.dat (scr ns), .own x5, .dat (.int p), .dat (.int (N : Int)), .dat (.int x), .dat (iT (late N x)), L, .dat (.int c)] [.dat (.int s), .un, .un, .un, .un] rfl (fun k => by
      unfold ari
      simp only [List.cons_append, List.nil_append]
      and_intros) (N + 4)
    simp only [List.cons_append, List.nil_append] at h
    have ei : iRange1 (oV (fBin bAdd (oVar 3) (oV (vC (.int 4))))) (E18 ns x5 p N x (late N x) L (.dat (.int c)) t8 (.dat (.int s)) .un .un .un .un) = some (((List.range (N + 4)).map EV.encN, none), E18 ns x5 p N x (late N x) L (.dat (.int c)) t8 (.dat (.int s)) .un .un .un .un) := by
      apply EV.i_r1 (n := N + 4)
      · rw [Int.natCast_add, show ((4 : Nat) : Int) = 4 from rfl]
        and_intros
      · omega
    rcases f8 with rfl | ⟨d8, rfl⟩
    · apply EV.e_lc
      and_intros
    · apply EV.e_lc
      and_intros
  have s11 : vLc [8] (iRange1 (oV (fBin bAdd (oVar 3) (oV (vC (.int 6)))))) (.nm 8) tYes (W_law_3 (run (n + 8))) (E18 ns x5 p N x (late N x) (.dat (iT (pre (ari p x s) (N + 4)))) (.dat (.int c)) t8 (.dat (.int s)) (.dat (iT (ariT p s))) .un .un .un) = some (.new ((pre (sqr p) (N + 6)).map .int), E18 ns x5 p N x (late N x) (.dat (iT (pre (ari p x s) (N + 4)))) (.dat (.int c)) t8 (.dat (.int s)) (.dat (iT (ariT p s))) .un .un .un) := by
    have h := EV.l_intR (vs := [8]) (g := .nm 8) (e := W_law_3 (run (n + 8))) (src := (List.range (N + 6)).map EV.encN) (ow := none) (δ := E18 ns x5 p N x (late N x) (.dat (iT (pre (ari p x s) (N + 4)))) (.dat (.int c)) .un (.dat (.int s)) (.dat (iT (ariT p s))) .un .un .un) (enc := EV.encN) (f := sqr p) (n := N + 6) (fun k hk => by
      have m : bMul (.int (k : Int)) (.int (k : Int)) = some (.dat (.int ((k : Int) * (k : Int)))) := EV.p_mulR (by omega)
      unfold sqr
      apply EV.lt_y
      and_intros) rfl
    rw [show (List.range (N + 6)).map (sqr p) = pre (sqr p) (N + 6) from rfl] at h
    have ei : iRange1 (oV (fBin bAdd (oVar 3) (oV (vC (.int 6))))) (E18 ns x5 p N x (late N x) (.dat (iT (pre (ari p x s) (N + 4)))) (.dat (.int c)) t8 (.dat (.int s)) (.dat (iT (ariT p s))) .un .un .un) = some (((List.range (N + 6)).map EV.encN, none), E18 ns x5 p N x (late N x) (.dat (iT (pre (ari p x s) (N + 4)))) (.dat (.int c)) t8 (.dat (.int s)) (.dat (iT (ariT p s))) .un .un .un) := by
      apply EV.i_r1 (n := N + 6)
      · rw [Int.natCast_add, show ((6 : Nat) : Int) = 6 from rfl]
        and_intros
      · omega
    rcases f8 with rfl | ⟨d8, rfl⟩
    · apply EV.e_lc
      and_intros
    · apply EV.e_lc
      and_intros
  have s13 : vLc [8] (iRange1 (oV (fBin bMul (oV (vC (.int 2))) (oVar 3)))) (.nm 8) tYes (W_law_4 (run (n + 8))) (E18 ns x5 p N x (late N x) (.dat (iT (pre (ari p x s) (N + 4)))) (.dat (.int c)) t8 (.dat (.int s)) (.dat (iT (ariT p s))) (.dat (iT (pre (sqr p) (N + 6)))) (.dat (.int (if p > 2 then 3 else 2))) .un) = some (.new ((pre (rng1 N) (2 * N)).map .int), E18 ns x5 p N x (late N x) (.dat (iT (pre (ari p x s) (N + 4)))) (.dat (.int c)) t8 (.dat (.int s)) (.dat (iT (ariT p s))) (.dat (iT (pre (sqr p) (N + 6)))) (.dat (.int (if p > 2 then 3 else 2))) .un) := by
    have h := EV.l_intR (vs := [8]) (g := .nm 8) (e := W_law_4 (run (n + 8))) (src := (List.range (2 * N)).map EV.encN) (ow := none) (δ := E18 ns x5 p N x (late N x) (.dat (iT (pre (ari p x s) (N + 4)))) (.dat (.int c)) .un (.dat (.int s)) (.dat (iT (ariT p s))) (.dat (iT (pre (sqr p) (N + 6)))) (.dat (.int (if p > 2 then 3 else 2))) .un) (enc := EV.encN) (f := rng1 N) (n := 2 * N) (fun k hk => by
      have er : rng1 N k = if decide ((k : Int) % (N : Int) = 0) = true then 1 else 0 := by
        unfold rng1
        by_cases q : k % N = 0
        · rw [if_pos q, if_pos (by simp; omega)]
        · rw [if_neg q, if_neg (by simp; omega)]
      rw [er]
      apply EV.lt_y
      and_intros) rfl
    rw [show (List.range (2 * N)).map (rng1 N) = pre (rng1 N) (2 * N) from rfl] at h
    have ei : iRange1 (oV (fBin bMul (oV (vC (.int 2))) (oVar 3))) (E18 ns x5 p N x (late N x) (.dat (iT (pre (ari p x s) (N + 4)))) (.dat (.int c)) t8 (.dat (.int s)) (.dat (iT (ariT p s))) (.dat (iT (pre (sqr p) (N + 6)))) (.dat (.int (if p > 2 then 3 else 2))) .un) = some (((List.range (2 * N)).map EV.encN, none), E18 ns x5 p N x (late N x) (.dat (iT (pre (ari p x s) (N + 4)))) (.dat (.int c)) t8 (.dat (.int s)) (.dat (iT (ariT p s))) (.dat (iT (pre (sqr p) (N + 6)))) (.dat (.int (if p > 2 then 3 else 2))) .un) := by
      apply EV.i_r1 (n := 2 * N)
      · rw [Int.natCast_mul, show ((2 : Nat) : Int) = 2 from rfl]
        and_intros
      · omega
    rcases f8 with rfl | ⟨d8, rfl⟩
    · apply EV.e_lc
      and_intros
    · apply EV.e_lc
      and_intros
  have v6 := s6 (.own (G.map .int))
  have v6' := s6 (.dat (iL G))
  have v10 : ∀ L : Slot, vIte (tB (fBin bGt (oVar 9) (oV (vC (.int 0))))) (vTup (aCons (oV (fBin bMod (oV (vC (.int 2))) (oVar 2))) (aCons (oV (fBin bSub (oVar 2) (oV (vC (.int 1))))) aNil))) (vTup (aCons (oV (vC (.int 1))) aNil)) (E18 ns x5 p N x (late N x) L (.dat (.int c)) t8 (.dat (.int s)) .un .un .un .un) = some (.dat (iT (ariT p s)), E18 ns x5 p N x (late N x) L (.dat (.int c)) t8 (.dat (.int s)) .un .un .un .un) := fun L => by
    have h1 : 1 ≤ 16000000 := by omega
    have h2 : 2 ≤ 16000000 := by omega
    unfold ariT
    by_cases q : 0 < s
    · rw [if_pos q]
      show _ = some (Res.dat (.tuple [.int (2 % p), .int (p - 1)]), _)
      and_intros
    · rw [if_neg q]
      show _ = some (Res.dat (.tuple [.int 1]), _)
      and_intros
  have w10 := v10 (.dat (iT (pre (ari p x s) (N + 4))))
  have w12 : ∀ L M : Slot, vIte (tB (fBin bGt (oVar 2) (oV (vC (.int 2))))) (vC (.int 3)) (vC (.int 2)) (E18 ns x5 p N x (late N x) L (.dat (.int c)) t8 (.dat (.int s)) M (.dat (iT (pre (sqr p) (N + 6)))) .un .un) = some (.dat (.int (if p > 2 then 3 else 2)), E18 ns x5 p N x (late N x) L (.dat (.int c)) t8 (.dat (.int s)) M (.dat (iT (pre (sqr p) (N + 6)))) .un .un) := fun L M => by
    by_cases q : p > 2
    · rw [if_pos q]
      and_intros
    · rw [if_neg q]
      and_intros
  have z12 := w12 (.dat (iT (pre (ari p x s) (N + 4)))) (.dat (iT (ariT p s)))
  have eN : fBin bAdd (oV (vC (.int 2))) (oV (vCallR (run (n + 8) "_law_taken") 1 (aCons (oV (vC (.int 30))) aNil))) [.dat (scr ns), .own x1, .un, .un, .un, .un, .un, .un, .un, .un, .un, .un, .un, .un] = some (.dat (.int (N : Int)), [.dat (scr ns), .own x2, .un, .un, .un, .un, .un, .un, .un, .un, .un, .un, .un, .un]) := by
    rw [hN]
    and_intros
  have eX : fBin bAdd (oV (vC (.int 1))) (oV (vCallR (run (n + 8) "_law_taken") 1 (aCons (oV (fBin bSub (oVar 2) (oV (vC (.int 1))))) aNil))) [.dat (scr ns), .own x2, .dat (.int p), .dat (.int (N : Int)), .un, .un, .un, .un, .un, .un, .un, .un, .un, .un] = some (.dat (.int x), [.dat (scr ns), .own x3, .dat (.int p), .dat (.int (N : Int)), .un, .un, .un, .un, .un, .un, .un, .un, .un, .un]) := by
    rw [hxe]
    and_intros
  have h1 : 1 ≤ 16000000 := by omega
  have h2 : 2 ≤ 16000000 := by omega
  clear hm' hx' hN hxe ln ll gn gl an al sn sl rn rl nw nx1 atl tk
  clear s6 v10 w12 gT gL aT aL rL sL we w0 bl
  generalize (if p > 2 then (3 : Int) else 2) = three at *
  generalize pre (ari p x s) (N + 4) = R1 at *
  generalize pre (sqr p) (N + 6) = R2 at *
  generalize pre (rng1 N) (2 * N) = R3 at *
  generalize ariT p s = AT at *
  apply go_law
  apply EV.s_seq
  focus (and_intros; done)
  with_reducible apply EV.q_nx
  apply EV.s_seq
  focus (and_intros; done)
  with_reducible apply EV.q_nx
  apply EV.s_seq
  focus (and_intros; done)
  with_reducible apply EV.q_nx
  apply EV.s_seq
  focus (and_intros; done)
  with_reducible apply EV.q_nx
  apply EV.s_seq
  focus (and_intros; done)
  with_reducible apply EV.q_nx
  apply EV.s_seq
  focus (and_intros; done)
  with_reducible apply EV.q_nx
  apply EV.s_seq
  focus (and_intros; done)
  with_reducible apply EV.q_nx
  apply EV.s_seq
  focus (and_intros; done)
  with_reducible apply EV.q_nx
  apply EV.s_seq
  focus (and_intros; done)
  with_reducible apply EV.q_nx
  apply EV.s_seq
  focus (and_intros; done)
  with_reducible apply EV.q_nx
  apply EV.s_seq
  focus (and_intros; done)
  with_reducible apply EV.q_nx
  apply EV.s_seq
  focus (and_intros; done)
  with_reducible apply EV.q_nx
  apply EV.s_seq
  focus (and_intros; done)
  with_reducible apply EV.q_nx
  apply EV.s_seq
  focus (and_intros; done)
  with_reducible apply EV.q_nx
  apply EV.s_seq
  focus (and_intros; done)
  with_reducible apply EV.q_nx
  apply EV.s_seq
  focus (and_intros; done)
  with_reducible apply EV.q_nx
  apply EV.s_seq
  focus (and_intros; done)
  with_reducible apply EV.q_nx
  apply EV.s_seq
  focus (and_intros; done)
  with_reducible apply EV.q_nx
  apply EV.s_seq
  focus (and_intros; done)
  with_reducible apply EV.q_nx
  and_intros
theorem law_true (ns : List Int) (_ : ns.length ≤ 63) : run 30 "law" none [scr ns] = some (.dat (.bool true), none) := law_run_true 21 ns
end IPL
end
section
set_option Elab.async false
set_option linter.all false
set_option maxRecDepth 100000
set_option maxHeartbeats 1000000
open PySem PySem.W PySem.Calls PyProof.Rows
theorem PySem.Challenge.cw_taprows_k18_known_rows_holds : PySem.Challenge.rw_taprows_k18_known_rows.Holds := by
  exact IPL.fin_law IPL.law_true
end
