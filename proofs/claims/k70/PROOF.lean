import PyProof.Rows.All
import PyProof.EqLayable
import Wide.All
import OpenK.AllK
import Wide.FinOn
import HandS.ForMost
import HandS.IsInst
import HandS.TupAny
import HandS.TupMul
import HandS.Zip
import HandS.Rev
import HandS.RevRange
import HandS.Walk
import HandS.HeadHook1
import HandS.HeadHook4
import HandS.Lambda
import HandS.Style
import HandS.Wide
import HandS.Iter
import KE.GoesMore
import KE.GoesEnum
import KE.KStateDown
import HandS.More
import HandS.WordsExc
import HandS.Defaults
import HandS.Head0
import HandS.Head1
import HandS.Head2
import HandS.HeadEnd
import HandS.HeadHook2
import HandS.WideBits
import HandS.Gcd
import HandS.Text
import KE.KTupSum
import HandS.Dict
import HandS.TupSets
import HandS.Sort
import HandS.SortOrd
import HandS.SortInts
import HandS.Deep
import HandS.SortKw
import KE.DataMinKey
import PySem.Challenge.RW_taprows_k70_whole_fractions_told_back
section
set_option linter.all false
/-! IP: an environment of pure data with owned lists; what a piece of the text does to it, as a total function. -/
namespace IP
open PySem
abbrev D := PyData
/-- a list or tuple or text within the model's bounds -/
abbrev line : Nat := 16000000
inductive Slot where
  | un | dat (d : D) | own (ds : List D) | prm (ds : List D) | obj (fs : List D) | pob (fs : List D) | dct (t : Bool) (kvs : List (D × D)) | tb (nms : List Str) | exc (a : Nat)
abbrev Env := List Slot
inductive Res where
  | dat (d : D) | new (ds : List D) | newD (t : Bool) (kvs : List (D × D))
inductive Opd where
  | val (d : D) | at (i : Nat)
inductive Out where
  | nx | bk | ct | rt (r : Res) | ro (i : Nat)
@[simp] def Res.toD : Res → D
  | .dat d => d
  | .new ds => .list ds
  | .newD _ kvs => .dict kvs
abbrev Ev := Env → Option (Res × Env)
abbrev Eo := Env → Option (Opd × Env)
abbrev Et := Env → Option (Bool × Env)
abbrev Ea := Env → Option (List Opd × Env)
abbrev Es := Env → Option (Out × Env)
/-- a function of the text: its one list handed by reference (if it has one), the data; the answer, that list behind it -/
abbrev Fnc := Option (List D) → List D → Option (Res × Option (List D))
abbrev Call := String → Fnc

@[simp] def slotD : Slot → Option D
  | .dat d => some d
  | .own ds => some (.list ds)
  | .prm ds => some (.list ds)
  | .un => none
  | .obj _ => none
  | .pob _ => none
  | .dct _ _ => none
  | .tb _ => none
  | .exc _ => none
@[simp] def rd (δ : Env) : Opd → Option D
  | .val d => some d
  | .at i => (δ[i]?).bind slotD
@[simp] def rdAll (δ : Env) : List Opd → Option (List D)
  | [] => some []
  | o :: os => (rd δ o).bind fun d => (rdAll δ os).map fun ds => d :: ds
/-- what a variable gives as a value that is kept: an owned list is owned no more -/
@[simp] def freeze (δ : Env) (i : Nat) : Env := match δ[i]? with
  | some (.own ds) => δ.set i (.dat (.list ds))
  | some (.dct _ kvs) => δ.set i (.dat (.dict kvs))
  | _ => δ

/-- the script, as data: a list that is read only -/
def scr (ns : List Int) : D := .dict [(.none, .tuple (ns.map .int))]

/-- a lambda without parameters, as data: the function that it calls, what it hands on -/
def clo (nm : Str) (ds : List D) : D := .dict [(.str nm, .list ds)]
/-! ### structural equality -/
mutual
def same : D → D → Bool
  | .none, .none => true
  | .bool a, .bool b => a == b
  | .int a, .int b => a == b
  | .str a, .str b => decide (a = b)
  | .list a, .list b => sameAll a b
  | .tuple a, .tuple b => sameAll a b
  | _, _ => false
def sameAll : List D → List D → Bool
  | [], [] => true
  | x :: xs, y :: ys => same x y && sameAll xs ys
  | _, _ => false
end
mutual
@[simp] def noList : D → Bool
  | .list _ => false
  | .dict _ => false
  | .tuple xs => noListAll xs
  | _ => true
@[simp] def noListAll : List D → Bool
  | [] => true
  | x :: xs => noList x && noListAll xs
end

/-! ### values -/
@[simp] def vC (d : D) : Ev := fun δ => some (.dat d, δ)
@[simp] def vVar (i : Nat) : Ev := fun δ => match δ[i]? with
  | some (.dat d) => some (.dat d, δ)
  | some (.own ds) => some (.dat (.list ds), freeze δ i)
  | some (.dct _ kvs) => some (.dat (.dict kvs), freeze δ i)
  | _ => none
@[simp] def oVar (i : Nat) : Eo := fun δ => match δ[i]? with
  | some (.dat d) => some (.val d, δ)
  | some (.own _) => some (.at i, δ)
  | some (.prm _) => some (.at i, δ)
  | some (.dct _ kvs) => some (.val (.dict kvs), freeze δ i)
  | _ => none
@[simp] def oV (f : Ev) : Eo := fun δ => (f δ).map fun p => (.val p.1.toD, p.2)
@[simp] def fBin (op : D → D → Option Res) (f g : Eo) : Ev := fun δ =>
  (f δ).bind fun p => (g p.2).bind fun q => (rd q.2 p.1).bind fun x => (rd q.2 q.1).bind fun y => (op x y).map fun r => (r, q.2)
@[simp] def fUn (op : D → Option Res) (f : Eo) : Ev := fun δ => (f δ).bind fun p => (rd p.2 p.1).bind fun x => (op x).map fun r => (r, p.2)

/-! ### the operators on data -/
def intsOf : List D → Option (List Int)
  | [] => some []
  | .int i :: ds => (intsOf ds).map fun is => i :: is
  | _ => none
def boolsOf : List D → Option (List Bool)
  | [] => some []
  | .bool i :: ds => (boolsOf ds).map fun is => i :: is
  | _ => none
@[simp] def bAdd : D → D → Option Res
  | .int a, .int b => some (.dat (.int (a + b)))
  | .tuple a, .tuple b => if a.length + b.length ≤ line then some (.dat (.tuple (a ++ b))) else none
  | .list a, .list b => if a.length + b.length ≤ line then some (.new (a ++ b)) else none
  | _, _ => none
@[simp] def bSub : D → D → Option Res
  | .int a, .int b => some (.dat (.int (a - b)))
  | _, _ => none
@[simp] def bMul : D → D → Option Res
  | .int a, .int b => if ((-(2 ^ 64) < a ∧ a < 2 ^ 64) ∨ (-(2 ^ 64) < b ∧ b < 2 ^ 64)) ∨ a.natAbs.log2 + b.natAbs.log2 < 1000000 then some (.dat (.int (a * b))) else none
  | .list a, .int k => if -(2 ^ 63) ≤ k ∧ k < 2 ^ 63 ∧ a.length * k.toNat ≤ line then some (.new (List.replicate k.toNat a).flatten) else none
  | .tuple a, .int k => if -(2 ^ 62) ≤ k ∧ k ≤ 2 ^ 62 ∧ a.length * k.toNat ≤ line then some (.dat (.tuple (List.replicate k.toNat a).flatten)) else none
  | _, _ => none
@[simp] def bFdiv : D → D → Option Res
  | .int a, .int b => if 0 < b ∧ (b < 1073741824 ∨ b.natAbs.log2 < 9000) then some (.dat (.int (a / b))) else none
  | _, _ => none
@[simp] def bMod : D → D → Option Res
  | .int a, .int b => if 0 < b then some (.dat (.int (a % b))) else none
  | _, _ => none
@[simp] def bPow : D → D → Option Res
  | .int a, .int b => if 0 ≤ b ∧ b ≤ 1000000 ∧ a.natAbs < 2 ^ 64 then some (.dat (.int (a ^ b.toNat))) else none
  | _, _ => none
@[simp] def bShr : D → D → Option Res
  | .int a, .int b => if 0 ≤ b then some (.dat (.int (a / 2 ^ b.toNat))) else none
  | _, _ => none
@[simp] def bLt : D → D → Option Res
  | .int a, .int b => some (.dat (.bool (decide (a < b))))
  | _, _ => none
@[simp] def bLe : D → D → Option Res
  | .int a, .int b => some (.dat (.bool (decide (a ≤ b))))
  | _, _ => none
@[simp] def bGt : D → D → Option Res
  | .int a, .int b => some (.dat (.bool (decide (b < a))))
  | _, _ => none
@[simp] def bGe : D → D → Option Res
  | .int a, .int b => some (.dat (.bool (decide (b ≤ a))))
  | _, _ => none
@[simp] def bEq (a b : D) : Option Res := if SeqAt.shaped a = true ∧ SeqAt.shaped b = true then some (.dat (.bool (PyData.eqv a b))) else none
@[simp] def bNe (a b : D) : Option Res := if SeqAt.shaped a = true ∧ SeqAt.shaped b = true then some (.dat (.bool (!PyData.eqv a b))) else none
@[simp] def bIn : D → D → Option Res
  | .int i, .list ds => (intsOf ds).map fun is => .dat (.bool (decide (i ∈ is)))
  | .int i, .tuple ds => (intsOf ds).map fun is => .dat (.bool (decide (i ∈ is)))
  | _, _ => none
@[simp] def bNotIn : D → D → Option Res
  | .int i, .list ds => (intsOf ds).map fun is => .dat (.bool (!decide (i ∈ is)))
  | .int i, .tuple ds => (intsOf ds).map fun is => .dat (.bool (!decide (i ∈ is)))
  | _, _ => none
@[simp] def uNeg : D → Option Res
  | .int a => some (.dat (.int (-a)))
  | _ => none
@[simp] def isNone : D → Bool
  | .none => true
  | _ => false
@[simp] def uIsN (d : D) : Option Res := some (.dat (.bool (isNone d)))
@[simp] def uNotN (d : D) : Option Res := some (.dat (.bool (!isNone d)))
/-- an int within -n .. n - 1 as a place -/
def ixN (n : Nat) (i : Int) : Option Nat := if 0 ≤ i then (if i < n then some i.toNat else none) else if -(n : Int) ≤ i then some (i + n).toNat else none
def atD (xs : List D) (i : Int) : Option D := (ixN xs.length i).bind fun j => xs[j]?
@[simp] def bIx : D → D → Option Res
  | .list xs, .int i => (atD xs i).map .dat
  | .tuple xs, .int i => (atD xs i).map .dat
  | .dict [(.none, .tuple xs)], .int i => (atD xs i).map .dat
  | _, _ => none
def clampIx (n d : Nat) : Option Int → Nat
  | none => d
  | some i => if i < 0 then (i + (n : Int)).toNat else min i.toNat n
def cutD (xs : List D) (lo hi : Option Int) : List D := (xs.drop (clampIx xs.length 0 lo)).take (clampIx xs.length xs.length hi - clampIx xs.length 0 lo)
/-- an optional bound of a slice -/
@[simp] def pNo : Env → Option (Option Int × Env) := fun δ => some (none, δ)
@[simp] def pSo (f : Eo) : Env → Option (Option Int × Env) := fun δ => (f δ).bind fun p => match p.1 with
  | .val (.int i) => some (some i, p.2)
  | _ => none
@[simp] def fSl (f : Eo) (lo hi : Env → Option (Option Int × Env)) : Ev := fun δ =>
  (f δ).bind fun p => (lo p.2).bind fun l => (hi l.2).bind fun h => (rd h.2 p.1).bind fun x => match x with
    | .list xs => some (.new (cutD xs l.1 h.1), h.2)
    | .tuple xs => some (.dat (.tuple (cutD xs l.1 h.1)), h.2)
    | _ => none

/-! ### tests -/
@[simp] def truth : D → Option Bool
  | .none => some false
  | .bool b => some b
  | .int i => some (i != 0)
  | .list xs => some (!xs.isEmpty)
  | .tuple xs => some (!xs.isEmpty)
  | _ => none
@[simp] def tV (f : Eo) : Et := fun δ => (f δ).bind fun p => (rd p.2 p.1).bind fun d => (truth d).map fun b => (b, p.2)
/-- a value that is a bool -/
@[simp] def tB (f : Ev) : Et := fun δ => (f δ).bind fun p => match p.1 with
  | .dat (.bool b) => some (b, p.2)
  | _ => none
@[simp] def tAnd (f g : Et) : Et := fun δ => (f δ).bind fun p => if p.1 = true then g p.2 else some (false, p.2)
@[simp] def tOr (f g : Et) : Et := fun δ => (f δ).bind fun p => if p.1 = true then some (true, p.2) else g p.2
@[simp] def tNot (f : Et) : Et := fun δ => (f δ).map fun p => (!p.1, p.2)
/-- the same as values -/
def vAnd (f g : Ev) : Ev := fun δ => (f δ).bind fun p => match p.1 with
  | .dat (.bool true) => g p.2
  | .dat (.bool false) => some (.dat (.bool false), p.2)
  | _ => none
def vOr (f g : Ev) : Ev := fun δ => (f δ).bind fun p => match p.1 with
  | .dat (.bool true) => some (.dat (.bool true), p.2)
  | .dat (.bool false) => g p.2
  | _ => none
@[simp] def vNot (f : Ev) : Ev := fun δ => (f δ).bind fun p => match p.1 with
  | .dat (.bool b) => some (.dat (.bool (!b)), p.2)
  | _ => none
@[simp] def vIte (t : Et) (f g : Ev) : Ev := fun δ => (t δ).bind fun p => if p.1 = true then f p.2 else g p.2
def vChain (o1 o2 : D → D → Option Res) (f g h : Eo) : Ev := fun δ =>
  (f δ).bind fun p => (g p.2).bind fun q => (rd q.2 p.1).bind fun x => (rd q.2 q.1).bind fun y => (o1 x y).bind fun r => match r with
    | .dat (.bool true) => (h q.2).bind fun u => (rd u.2 q.1).bind fun y' => (rd u.2 u.1).bind fun z => (o2 y' z).map fun r => (r, u.2)
    | .dat (.bool false) => some (.dat (.bool false), q.2)
    | _ => none

/-! ### displays, calls -/
@[simp] def aNil : Ea := fun δ => some ([], δ)
@[simp] def aCons (f : Eo) (g : Ea) : Ea := fun δ => (f δ).bind fun p => (g p.2).map fun q => (p.1 :: q.1, q.2)
@[simp] def vals : List Opd → Option (List D)
  | [] => some []
  | .val d :: os => (vals os).map fun ds => d :: ds
  | .at _ :: _ => none
@[simp] def vTup (f : Ea) : Ev := fun δ => (f δ).bind fun p => (vals p.1).bind fun ds => if ds.length ≤ line then some (.dat (.tuple ds), p.2) else none
@[simp] def vLst (f : Ea) : Ev := fun δ => (f δ).bind fun p => (vals p.1).bind fun ds => if ds.length ≤ line then some (.new ds, p.2) else none
/-- a builtin on data -/
@[simp] def vBi (b : List D → Option Res) (f : Ea) : Ev := fun δ => (f δ).bind fun p => (rdAll p.2 p.1).bind fun ds => (b ds).map fun r => (r, p.2)
def freezeAll : List Opd → Env → Env
  | [], δ => δ
  | .val _ :: os, δ => freezeAll os δ
  | .at i :: os, δ => freezeAll os (freeze δ i)
@[simp] def anyAt : List Opd → Bool
  | [] => false
  | .val _ :: os => anyAt os
  | .at _ :: _ => true
/-- a call without a list by reference: owned lists are read in place where no list comes back -/
@[simp] def vCall (c : Fnc) (f : Ea) : Ev := fun δ => (f δ).bind fun p => (rdAll p.2 p.1).bind fun ds => (c none ds).bind fun r => match r with
  | (r, none) => if anyAt p.1 = false then some (r, p.2) else match r with
    | .dat d => if noList d = true then some (.dat d, p.2) else none
    | .new ds => if noListAll ds = true then some (.new ds, p.2) else none
    | .newD _ _ => none
  | _ => none
/-- a call with the list of the variable i by reference -/
@[simp] def ownAt (δ : Env) (i : Nat) : Bool := match δ[i]? with
  | some (.own _) => true
  | some (.prm _) => true
  | _ => false
@[simp] def vCallR (c : Fnc) (i : Nat) (f : Ea) : Ev := fun δ => (if ownAt δ i = true then f δ else none).bind fun p => (vals p.1).bind fun ds => match p.2[i]? with
  | some (.own xs) => (c (some xs) ds).bind fun r => match r.2 with
    | some ys => some (r.1, p.2.set i (.own ys))
    | none => none
  | some (.prm xs) => (c (some xs) ds).bind fun r => match r.2 with
    | some ys => some (r.1, p.2.set i (.prm ys))
    | none => none
  | _ => none
inductive Ty where
  | int | bool | str | list | tuple
  deriving DecidableEq
/-- not the script -/
def notScr : List (D × D) → Bool
  | (.none, _) :: _ => false
  | (.str _, _) :: _ => false
  | _ => true
@[simp] def isTy : Ty → D → Option Bool
  | _, .dict kvs => if notScr kvs = true then some false else none
  | .int, .int _ => some true
  | .int, .bool _ => some true
  | .bool, .bool _ => some true
  | .str, .str _ => some true
  | .list, .list _ => some true
  | .tuple, .tuple _ => some true
  | _, _ => some false
@[simp] def isAny : List Ty → D → Option Bool
  | [], _ => some false
  | t :: ts, d => (isTy t d).bind fun b => if b = true then some true else isAny ts d
@[simp] def uIs (ts : List Ty) (d : D) : Option Res := (isAny ts d).map fun b => .dat (.bool b)

/-! ### built-in functions -/
@[simp] def biLen : List D → Option Res
  | [.list xs] => some (.dat (.int xs.length))
  | [.tuple xs] => some (.dat (.int xs.length))
  | [.dict [(.none, .tuple xs)]] => some (.dat (.int xs.length))
  | _ => none
@[simp] def biInt : List D → Option Res
  | [.int i] => some (.dat (.int i))
  | [.bool b] => some (.dat (.int (if b then 1 else 0)))
  | _ => none
@[simp] def biTuple : List D → Option Res
  | [.list xs] => some (.dat (.tuple xs))
  | [.tuple xs] => some (.dat (.tuple xs))
  | _ => none
@[simp] def biList : List D → Option Res
  | [.list xs] => some (.new xs)
  | [.tuple xs] => some (.new xs)
  | _ => none
@[simp] def biSum : List D → Option Res
  | [.list xs] => (intsOf xs).map fun is => .dat (.int is.sum)
  | _ => none
@[simp] def biAll : List D → Option Res
  | [.list xs] => (boolsOf xs).map fun bs => .dat (.bool (bs.all id))
  | _ => none
@[simp] def biAny : List D → Option Res
  | [.list xs] => (boolsOf xs).map fun bs => .dat (.bool (bs.any id))
  | _ => none
@[simp] def biAbs : List D → Option Res
  | [.int i] => some (.dat (.int (if i < 0 then -i else i)))
  | _ => none
@[simp] def biMax : List D → Option Res
  | [.int i, .int j] => some (.dat (.int (if j > i then j else i)))
  | _ => none
@[simp] def biMin : List D → Option Res
  | [.int i, .int j] => some (.dat (.int (if j < i then j else i)))
  | _ => none

/-! ### targets and what is walked -/
inductive Tg where
  | nm (i : Nat) | tup (is : List Nat) | pre (is js : List Nat)
@[simp] def Tg.slots : Tg → List Nat
  | .nm i => [i]
  | .tup is => is
  | .pre is js => is ++ js
@[simp] def setSlot (δ : Env) (i : Nat) (s : Slot) : Option Env := match δ[i]? with
  | some (.prm _) => none
  | some (.pob _) => none
  | some _ => some (δ.set i s)
  | none => none
@[simp] def setDs : Env → List Nat → List D → Option Env
  | δ, [], [] => some δ
  | δ, i :: is, d :: ds => (setSlot δ i (.dat d)).bind fun δ' => setDs δ' is ds
  | _, _, _ => none
@[simp] def Tg.put : Tg → D → Env → Option Env
  | .nm i, d, δ => setSlot δ i (.dat d)
  | .tup is, .tuple ds, δ => setDs δ is ds
  | .pre is js, .tuple (.tuple ds :: es), δ => (setDs δ is ds).bind fun δ' => setDs δ' js es
  | _, _, _ => none
/-- what is walked: the items, and the variable whose owned list is walked in place -/
abbrev Ei := Env → Option ((List D × Option Nat) × Env)
@[simp] def itemsOf : D → Option (List D)
  | .list xs => some xs
  | .tuple xs => some xs
  | _ => none
def own? : Opd → Option Nat
  | .val _ => none
  | .at i => some i
@[simp] def iE (f : Eo) : Ei := fun δ => (f δ).bind fun p => (rd p.2 p.1).bind fun d => (itemsOf d).map fun xs => ((xs, own? p.1), p.2)
def rangeD (lo : Int) (n : Nat) : List D := (List.range n).map fun k => .int (lo + (k : Nat))
def iRange1 (f : Eo) : Ei := fun δ => (f δ).bind fun p => match p.1 with
  | .val (.int j) => if -(2 ^ 62) ≤ j ∧ j < 2 ^ 62 then some ((rangeD 0 j.toNat, none), p.2) else none
  | _ => none
def iRange2 (f g : Eo) : Ei := fun δ => (f δ).bind fun p => (g p.2).bind fun q => match p.1, q.1 with
  | .val (.int i), .val (.int j) => if -(2 ^ 62) ≤ i ∧ i < 2 ^ 62 ∧ -(2 ^ 62) ≤ j ∧ j < 2 ^ 62 then some ((rangeD i (j - i).toNat, none), q.2) else none
  | _, _ => none
/-- range(a, b, -1) -/
def downD (hi : Int) (n : Nat) : List D := (List.range n).map fun k => .int (hi - (k : Nat))
def iDown (f g : Eo) : Ei := fun δ => (f δ).bind fun p => (g p.2).bind fun q => match p.1, q.1 with
  | .val (.int i), .val (.int j) => if -(2 ^ 60) ≤ i ∧ i < 2 ^ 60 ∧ -(2 ^ 60) ≤ j ∧ j < 2 ^ 60 then some ((downD i (i - j).toNat, none), q.2) else none
  | _, _ => none
def enumD : Nat → List D → List D
  | _, [] => []
  | k, d :: ds => .tuple [.int k, d] :: enumD (k + 1) ds
@[simp] def iEnum (f : Eo) : Ei := fun δ => (f δ).bind fun p => match p.1 with
  | .val (.list xs) => some ((enumD 0 xs, none), p.2)
  | .val (.tuple xs) => some ((enumD 0 xs, none), p.2)
  | _ => none
/-- zip, of two that are data -/
def zipD : List D → List D → List D
  | x :: xs, y :: ys => .tuple [x, y] :: zipD xs ys
  | _, _ => []
@[simp] def iZip (f g : Eo) : Ei := fun δ => (f δ).bind fun p => (g p.2).bind fun q => match p.1, q.1 with
  | .val (.list xs), .val (.list ys) => some ((zipD xs ys, none), q.2)
  | .val (.tuple xs), .val (.tuple ys) => some ((zipD xs ys, none), q.2)
  | _, _ => none
/-- reversed(range(n)), reversed(range(a, b)) -/
def iRevR1 (f : Eo) : Ei := fun δ => (f δ).bind fun p => match p.1 with
  | .val (.int j) => if -(2 ^ 60) ≤ j ∧ j < 2 ^ 60 then some ((downD ((j.toNat : Int) - 1) j.toNat, none), p.2) else none
  | _ => none
/-- an int that a range can have -/
def small (i : Int) : Bool := decide (-(2 ^ 62) ≤ i ∧ i < 2 ^ 62)
def small60 (i : Int) : Bool := decide (-(2 ^ 60) ≤ i ∧ i < 2 ^ 60)
theorem small_of {i : Int} (h : -1000000000 ≤ i ∧ i ≤ 1000000000) : small i = true := decide_eq_true ⟨by omega, by omega⟩
theorem small60_of {i : Int} (h : -1000000000 ≤ i ∧ i ≤ 1000000000) : small60 i = true := decide_eq_true ⟨by omega, by omega⟩
theorem iRange1_s (f : Eo) (δ : Env) : iRange1 f δ = (f δ).bind fun p => match p.1 with
    | .val (.int j) => if small j = true then some ((rangeD 0 j.toNat, none), p.2) else none
    | _ => none := by
  unfold iRange1 small
  congr 1
  funext p
  split <;> simp only [decide_eq_true_eq]
theorem iRange2_s (f g : Eo) (δ : Env) : iRange2 f g δ = (f δ).bind fun p => (g p.2).bind fun q => match p.1, q.1 with
    | .val (.int i), .val (.int j) => if small i = true ∧ small j = true then some ((rangeD i (j - i).toNat, none), q.2) else none
    | _, _ => none := by
  unfold iRange2 small
  congr 1
  funext p
  congr 1
  funext q
  split <;> simp only [decide_eq_true_eq, and_assoc]
theorem iDown_s (f g : Eo) (δ : Env) : iDown f g δ = (f δ).bind fun p => (g p.2).bind fun q => match p.1, q.1 with
    | .val (.int i), .val (.int j) => if small60 i = true ∧ small60 j = true then some ((downD i (i - j).toNat, none), q.2) else none
    | _, _ => none := by
  unfold iDown small60
  congr 1
  funext p
  congr 1
  funext q
  split <;> simp only [decide_eq_true_eq, and_assoc]
theorem iRange1_at {f : Eo} {δ δ1 : Env} {j : Int} (h1 : f δ = some (.val (.int j), δ1)) (hj : -1000000000 ≤ j ∧ j ≤ 1000000000) : iRange1 f δ = some ((rangeD 0 j.toNat, none), δ1) := by
  rw [iRange1_s, h1]
  simp only [Option.bind_some]
  rw [if_pos (small_of hj)]
theorem iRange2_at {f g : Eo} {δ δ1 δ2 : Env} {i j : Int} (h1 : f δ = some (.val (.int i), δ1)) (h2 : g δ1 = some (.val (.int j), δ2)) (hi : -1000000000 ≤ i ∧ i ≤ 1000000000) (hj : -1000000000 ≤ j ∧ j ≤ 1000000000) : iRange2 f g δ = some ((rangeD i (j - i).toNat, none), δ2) := by
  rw [iRange2_s, h1]
  simp only [Option.bind_some]
  rw [h2]
  simp only [Option.bind_some]
  rw [if_pos ⟨small_of hi, small_of hj⟩]
theorem iDown_at {f g : Eo} {δ δ1 δ2 : Env} {i j : Int} (h1 : f δ = some (.val (.int i), δ1)) (h2 : g δ1 = some (.val (.int j), δ2)) (hi : -1000000000 ≤ i ∧ i ≤ 1000000000) (hj : -1000000000 ≤ j ∧ j ≤ 1000000000) : iDown f g δ = some ((downD i (i - j).toNat, none), δ2) := by
  rw [iDown_s, h1]
  simp only [Option.bind_some]
  rw [h2]
  simp only [Option.bind_some]
  rw [if_pos ⟨small60_of hi, small60_of hj⟩]
/-- is the owned list still this one (as an owned list, or frozen)? -/
def still (δ : Env) (xs : List D) : Option Nat → Bool
  | none => true
  | some i => match δ[i]? with
    | some s => match slotD s with
      | some (.list ys) => sameAll xs ys
      | _ => false
    | none => false

/-! ### comprehensions -/
@[simp] def unAll : List Nat → Env → Option Env
  | [], δ => some δ
  | i :: is, δ => match δ[i]? with
    | some .un => unAll is δ
    | some (.dat _) => unAll is (δ.set i .un)
    | _ => none
@[simp] def backAll (δ0 : Env) : List Nat → Env → Env
  | [], δ => δ
  | i :: is, δ => backAll δ0 is (match δ0[i]? with
    | some s => δ.set i s
    | none => δ)
/-- the turns of a comprehension: each begins with its own names unset -/
def lcGo (vs : List Nat) (g : Tg) (t : Et) (e : Ev) (src : List D) (ow : Option Nat) : List D → Env → Option (List D × Env)
  | [], δ => if still δ src ow = true then some ([], δ) else none
  | x :: xs, δ => if still δ src ow = true then (g.put x δ).bind fun δ1 => (t δ1).bind fun p => if p.1 = true then
      (e p.2).bind fun r => (unAll vs r.2).bind fun δ2 => (lcGo vs g t e src ow xs δ2).map fun q => (r.1.toD :: q.1, q.2)
    else (unAll vs p.2).bind fun δ2 => lcGo vs g t e src ow xs δ2 else none
@[simp] def tYes : Et := fun δ => some (true, δ)
@[simp] def vLc (vs : List Nat) (it : Ei) (g : Tg) (t : Et) (e : Ev) : Ev := fun δ => (it δ).bind fun p => (unAll vs p.2).bind fun δ1 =>
  if p.1.1.length ≤ line then (lcGo vs g t e p.1.1 p.1.2 p.1.1 δ1).map fun q => (.new q.1, backAll p.2 vs q.2) else none

/-! ### statements -/
@[simp] def slotOf : Res → Slot
  | .dat d => .dat d
  | .new ds => .own ds
  | .newD t kvs => .dct t kvs
@[simp] def sPass : Es := fun δ => some (.nx, δ)
@[simp] def sBreak : Es := fun δ => some (.bk, δ)
@[simp] def sCont : Es := fun δ => some (.ct, δ)
@[simp] def sNever : Es := fun _ => none
@[simp] def sSeq (f g : Es) : Es := fun δ => (f δ).bind fun p => match p.1 with
  | .nx => g p.2
  | o => some (o, p.2)
@[simp] def sSet (i : Nat) (f : Ev) : Es := fun δ => (f δ).bind fun p => (setSlot p.2 i (slotOf p.1)).map fun δ' => (.nx, δ')
/-- a, b = e, e a tuple -/
@[simp] def sUnp (is : List Nat) (f : Ev) : Es := fun δ => (f δ).bind fun p => match p.1 with
  | .dat (.tuple ds) => (setDs p.2 is ds).map fun δ' => (.nx, δ')
  | _ => none
/-- several values, fresh lists kept owned; then several names at once -/
@[simp] def pEvs : List Ev → Env → Option (List Res × Env)
  | [], δ => some ([], δ)
  | f :: fs, δ => (f δ).bind fun p => (pEvs fs p.2).map fun q => (p.1 :: q.1, q.2)
@[simp] def setRs : Env → List Nat → List Res → Option Env
  | δ, [], [] => some δ
  | δ, i :: is, r :: rs => (setSlot δ i (slotOf r)).bind fun δ' => setRs δ' is rs
  | _, _, _ => none
@[simp] def sPar (is : List Nat) (fs : List Ev) : Es := fun δ => (pEvs fs δ).bind fun p => (setRs p.2 is p.1).map fun δ' => (.nx, δ')
@[simp] def sEx (f : Ev) : Es := fun δ => (f δ).map fun p => (.nx, p.2)
@[simp] def sRet (f : Ev) : Es := fun δ => (f δ).map fun p => (.rt p.1, p.2)
@[simp] def sRetN : Es := fun δ => some (.rt (.dat .none), δ)
@[simp] def sIf (t : Et) (f g : Es) : Es := fun δ => (t δ).bind fun p => if p.1 = true then f p.2 else g p.2
/-- the owned list of a variable changes -/
@[simp] def withOwn (δ : Env) (i : Nat) (k : List D → Option (List D)) : Option Env := match δ[i]? with
  | some (.own xs) => (k xs).map fun ys => δ.set i (.own ys)
  | some (.prm xs) => (k xs).map fun ys => δ.set i (.prm ys)
  | _ => none
@[simp] def sApp (i : Nat) (f : Ev) : Es := fun δ => (if ownAt δ i = true then f δ else none).bind fun p => (withOwn p.2 i fun xs => if xs.length < line then some (xs ++ [p.1.toD]) else none).map fun δ' => (.nx, δ')
@[simp] def sPop (i : Nat) : Es := fun δ => (withOwn δ i fun xs => if xs.isEmpty = true then none else some xs.dropLast).map fun δ' => (.nx, δ')
/-- x[i] = e: e first, then the place -/
@[simp] def sSetIx (i : Nat) (ix : Eo) (f : Eo) : Es := fun δ => (f δ).bind fun p => (if ownAt p.2 i = true then ix p.2 else none).bind fun q => match p.1, q.1 with
  | .val d, .val (.int k) => (withOwn q.2 i fun xs => (ixN xs.length k).map fun j => xs.set j d).map fun δ' => (.nx, δ')
  | _, _ => none
/-- x op= e, of ints -/
@[simp] def sAug (i : Nat) (op : Int → Int → Int) (f : Eo) : Es := fun δ => match δ[i]? with
  | some (.dat (.int a)) => (f δ).bind fun p => match p.1 with
    | .val (.int b) => (setSlot p.2 i (.dat (.int (op a b)))).map fun δ' => (.nx, δ')
    | _ => none
  | _ => none
/-- the turns of a for -/
def forGo (g : Tg) (b : Es) : List D → Env → Option (Out × Env)
  | [], δ => some (.nx, δ)
  | x :: xs, δ => (g.put x δ).bind fun δ1 => (b δ1).bind fun p => match p.1 with
    | .nx => forGo g b xs p.2
    | .ct => forGo g b xs p.2
    | .bk => some (.nx, p.2)
    | .rt r => some (.rt r, p.2)
    | .ro i => some (.ro i, p.2)
@[simp] def sFor (it : Ei) (g : Tg) (b : Es) : Es := fun δ => (it δ).bind fun p => if p.1.2 = none then forGo g b p.1.1 p.2 else none
/-- the turns of a while, at most so many -/
def whileGo (t : Et) (b : Es) : Nat → Env → Option (Out × Env)
  | 0, _ => none
  | n + 1, δ => (t δ).bind fun p => if p.1 = true then (b p.2).bind fun q => match q.1 with
      | .nx => whileGo t b n q.2
      | .ct => whileGo t b n q.2
      | .bk => some (.nx, q.2)
      | .rt r => some (.rt r, q.2)
      | .ro i => some (.ro i, q.2)
    else some (.nx, p.2)
def turns : Nat := 1000000
@[simp] def sWhile (t : Et) (b : Es) : Es := fun δ => whileGo t b turns δ

/-! ### functions -/
/-- the parameters (the first by reference: byRef), the number of names, the body -/
structure Fn where
  byRef : Bool
  nps : Nat
  names : Nat
  body : Es
@[simp] def Fn.run (F : Fn) : Fnc := fun r ds =>
  let δ0 : Option Env := match F.byRef, r with
    | true, some xs => if ds.length + 1 = F.nps then some (.prm xs :: (ds.map .dat ++ List.replicate (F.names - F.nps) .un)) else none
    | false, none => if ds.length = F.nps then some (ds.map .dat ++ List.replicate (F.names - F.nps) .un) else none
    | _, _ => none
  δ0.bind fun δ0 => (F.body δ0).bind fun p =>
    let r : Option Res := match p.1 with
      | .nx => some (.dat .none)
      | .rt r => some r
      | _ => none
    r.bind fun r => match F.byRef, (p.2[0]? : Option Slot) with
      | true, some (.prm ys) => some (r, some ys)
      | false, _ => some (r, none)
      | _, _ => none
/-! ### the same, for simp -/
@[simp] theorem still_none (δ : Env) (xs : List D) : still δ xs none = true := rfl
@[simp] def asB : Res → Option Bool
  | .dat (.bool b) => some b
  | _ => none
@[simp] theorem vAnd_s (f g : Ev) (δ : Env) : vAnd f g δ = (f δ).bind fun p => (asB p.1).bind fun b => if b = true then g p.2 else some (.dat (.bool false), p.2) := by
  unfold vAnd
  cases f δ with
  | none => rfl
  | some p =>
    obtain ⟨r, δ'⟩ := p
    cases r with
    | new _ => rfl
    | newD _ _ => rfl
    | dat d => cases d with
      | bool b => cases b <;> rfl
      | _ => rfl
@[simp] theorem vOr_s (f g : Ev) (δ : Env) : vOr f g δ = (f δ).bind fun p => (asB p.1).bind fun b => if b = true then some (.dat (.bool true), p.2) else g p.2 := by
  unfold vOr
  cases f δ with
  | none => rfl
  | some p =>
    obtain ⟨r, δ'⟩ := p
    cases r with
    | new _ => rfl
    | newD _ _ => rfl
    | dat d => cases d with
      | bool b => cases b <;> rfl
      | _ => rfl
@[simp] theorem vChain_s (o1 o2 : D → D → Option Res) (f g h : Eo) (δ : Env) : vChain o1 o2 f g h δ =
    (f δ).bind fun p => (g p.2).bind fun q => (rd q.2 p.1).bind fun x => (rd q.2 q.1).bind fun y => (o1 x y).bind fun r => (asB r).bind fun b =>
      if b = true then (h q.2).bind fun u => (rd u.2 q.1).bind fun y' => (rd u.2 u.1).bind fun z => (o2 y' z).map fun r => (r, u.2) else some (.dat (.bool false), q.2) := by
  unfold vChain
  congr 1
  funext p
  congr 1
  funext q
  congr 1
  funext x
  congr 1
  funext y
  congr 1
  funext r
  cases r with
  | new _ => rfl
  | newD _ _ => rfl
  | dat d => cases d with
    | bool b => cases b <;> rfl
    | _ => rfl
end IP
end
section
set_option Elab.async false
set_option linter.all false
set_option maxRecDepth 100000
set_option maxHeartbeats 2000000
/-! Snd: what a piece of the text does to the environment of data is what IP says. -/
namespace IP
open PySem L2

def Sub (A B : Hp) : Prop := ∀ a o, A a = some o → B a = some o
theorem Sub.refl (H : Hp) : Sub H H := fun _ _ h => h
theorem Sub.trans {A B C : Hp} (h : Sub A B) (g : Sub B C) : Sub A C := fun a o e => g a o (h a o e)
theorem Sub.new {H : Hp} {p : Addr} {o : HO} (h : H p = none) : Sub H (upd H p o) := fun a u e => by
  rw [upd_ne (ne_of_none e h)]
  exact e
theorem Sub.none {A B : Hp} (h : Sub A B) {p : Addr} (e : B p = Option.none) : A p = Option.none := by
  cases q : A p with
  | none => rfl
  | some o =>
    rw [h p o q] at e
    cases e

theorem Rd.sub {A B : Hp} (h : Sub A B) {a : Addr} {u : HO} (r : Rd A a u) : Rd B a u := by
  rcases r with r | ⟨o, r⟩
  · exact .inl (h _ _ r)
  · exact .inr ⟨o, h _ _ r⟩
theorem SqL.sub {A B : Hp} (h : Sub A B) {K : PySem.W.Frag} {a : Addr} {xs : List V} (r : SqL K A a xs) : SqL K B a xs := by
  rcases r with r | r
  · exact .inl (Rd.sub h r)
  · exact .inr r
theorem SqT.sub {A B : Hp} (h : Sub A B) {K : PySem.W.Frag} {a : Addr} {xs : List V} (r : SqT K A a xs) : SqT K B a xs := by
  rcases r with r | r
  · exact .inl (Rd.sub h r)
  · exact .inr r

/-! ### lambdas without parameters -/
/-- the function object of a lambda -/
def LamO (f : Addr) (q : Str) (params : Arguments) (body : Expr) (scope : Scope) (cl : List (Str × Addr)) (pm : Value) (c : Addr) (ctv : Value) : HO := .ext fun h => h.get? f = some (PySem.W.kla_obj "<lambda>" q params body scope cl pm c ctv)
/-- a cell's content -/
def CellO (c : Addr) (v : V) : HO := .ext fun h => ∃ u, L2.RelV v u ∧ h.IsCell c (some u)
/-- the arguments that a lambda hands on: captured names, None -/
inductive LArgs (H : Hp) (scope : Scope) (cl : List (Str × Addr)) : List Expr → List V → Prop
  | nil : LArgs H scope cl [] []
  | var {y : Str} {p : Pos} {c : Addr} {v : V} {es : List Expr} {vs : List V} : scope.names.lookup y = some .free → (y == ("__debug__" : Str)) = false → (y == ("__classdict__" : Str)) = false → cl.lookup y = some c → H c = some (CellO c v) → LArgs H scope cl es vs → LArgs H scope cl (.Name y p :: es) (v :: vs)
  | non {j : Nat} {p : Pos} {es : List Expr} {vs : List V} : LArgs H scope cl es vs → LArgs H scope cl (.Constant .none j p :: es) (.non :: vs)
theorem LArgs.sub {A B : Hp} {scope : Scope} {cl : List (Str × Addr)} (s : Sub A B) {es : List Expr} {vs : List V} (h : LArgs A scope cl es vs) : LArgs B scope cl es vs := by
  induction h with
  | nil => exact .nil
  | var h1 h2 h3 h4 h5 _ ih => exact .var h1 h2 h3 h4 (s _ _ h5) ih
  | non _ ih => exact .non ih
/-- what is known of a lambda that calls nm: its text and its cells -/
structure LamOk (H : Hp) (nm q : Str) (params : Arguments) (body : Expr) (scope : Scope) (cl : List (Str × Addr)) (vs : List V) : Prop where
  kind : scope.kind = .function
  co : scope.isCoroutine = false
  gen : scope.isGenerator = false
  own : ∀ y ∈ scope.names, y.2 ≠ .local ∧ y.2 ≠ .cell
  glob : scope.names.lookup nm = some .globalImplicit
  dbg : (nm == ("__debug__" : Str)) = false
  bind : ∀ (cl : List (Str × Addr)) (pm cv ctv : Value), bindArgs (PySem.W.kla_fn "<lambda>" q params body scope cl pm cv ctv) ⟨[], []⟩ = pure []
  has : ∀ y ∈ scope.names, y.2 = .free → ∃ c, cl.lookup y.1 = some c
  cells : ∀ y c, cl.lookup y = some c → ∃ v, H c = some (CellO c v)
  inj : ∀ y z c, cl.lookup y = some c → cl.lookup z = some c → y = z
  text : ∃ (p pos : Pos) (e : Expr) (es : List Expr), body = .Call (.Name nm p) (e :: es) [] pos ∧ LArgs H scope cl (e :: es) vs ∧ ∀ env : PySem.Env, (starEach (e :: es) env = (false, eval e env) :: starEach es env) ∧ (backTo pos (starEach es env)).any (·.1) = false
theorem LamOk.sub {A B : Hp} {nm q : Str} {params : Arguments} {body : Expr} {scope : Scope} {cl : List (Str × Addr)} {vs : List V} (s : Sub A B) (h : LamOk A nm q params body scope cl vs) : LamOk B nm q params body scope cl vs where
  kind := h.kind
  co := h.co
  gen := h.gen
  own := h.own
  glob := h.glob
  dbg := h.dbg
  bind := h.bind
  has := h.has
  cells := fun y c e => (h.cells y c e).elim fun v e => ⟨v, s _ _ e⟩
  inj := h.inj
  text := by
    obtain ⟨p, pos, e, es, h1, h2, h3⟩ := h.text
    exact ⟨p, pos, e, es, h1, h2.sub s, h3⟩
/-! ### a value and its data -/
mutual
inductive Rel (K : PySem.W.Frag) (H : Hp) : V → D → Prop
  | non : Rel K H .non .none
  | bl (b : Bool) : Rel K H (.bl b) (.bool b)
  | int (i : Int) : Rel K H (.int i) (.int i)
  | str (x : Str) : Rel K H (.str x) (.str x)
  | lst {a : Addr} {xs : List V} {ds : List D} : H a = some (.lst xs) → RelAll K H xs ds → Rel K H (.ref a) (.list ds)
  | tup {a : Addr} {xs : List V} {ds : List D} : H a = some (.tup xs) → RelAll K H xs ds → Rel K H (.ref a) (.tuple ds)
  | scr {a : Addr} {ns : List Int} : SqL K H a (ns.map V.int) → Rel K H (.ref a) (scr ns)
  | dck {a : Addr} {ks : List (L2.Key × V)} {kvs : List (D × D)} : H a = some (.dK ks) → RelK K H ks kvs → Rel K H (.ref a) (.dict kvs)
  | dct {a : Addr} {ks : List (List L2.Key × V)} {kvs : List (D × D)} : H a = some (.dT ks) → RelKT K H ks kvs → Rel K H (.ref a) (.dict kvs)
  | lam {f c' : Addr} {nm q : Str} {params : Arguments} {body : Expr} {scope : Scope} {cl : List (Str × Addr)} {pm ctv : Value} {vs : List V} {ds : List D} : H f = some (LamO f q params body scope cl pm c' ctv) → H c' = some (LamX.CodeO c' q) → LamOk H nm q params body scope cl vs → RelAll K H vs ds → Rel K H (.ref f) (clo nm ds)
inductive RelK (K : PySem.W.Frag) (H : Hp) : List (L2.Key × V) → List (D × D) → Prop
  | nil : RelK K H [] []
  | cons {i : Int} {v : V} {d : D} {ks : List (L2.Key × V)} {kvs : List (D × D)} : Rel K H v d → RelK K H ks kvs → RelK K H ((.inl i, v) :: ks) ((.int i, d) :: kvs)
inductive RelKT (K : PySem.W.Frag) (H : Hp) : List (List L2.Key × V) → List (D × D) → Prop
  | nil : RelKT K H [] []
  | cons {is : List Int} {v : V} {d : D} {ks : List (List L2.Key × V)} {kvs : List (D × D)} : Rel K H v d → RelKT K H ks kvs → RelKT K H ((is.map .inl, v) :: ks) ((.tuple (is.map .int), d) :: kvs)
inductive RelAll (K : PySem.W.Frag) (H : Hp) : List V → List D → Prop
  | nil : RelAll K H [] []
  | cons {v : V} {vs : List V} {d : D} {ds : List D} : Rel K H v d → RelAll K H vs ds → RelAll K H (v :: vs) (d :: ds)
end
section
variable {K : PySem.W.Frag} {A B : Hp}
mutual
theorem Rel.sub (h : Sub A B) : ∀ {v : V} {d : D}, Rel K A v d → Rel K B v d
  | _, _, .non => .non
  | _, _, .bl b => .bl b
  | _, _, .int i => .int i
  | _, _, .str x => .str x
  | _, _, .lst e r => .lst (h _ _ e) (RelAll.sub h r)
  | _, _, .tup e r => .tup (h _ _ e) (RelAll.sub h r)
  | _, _, .scr e => .scr (SqL.sub h e)
  | _, _, .dck e r => .dck (h _ _ e) (RelK.sub h r)
  | _, _, .dct e r => .dct (h _ _ e) (RelKT.sub h r)
  | _, _, .lam e1 e2 k r => .lam (h _ _ e1) (h _ _ e2) (k.sub h) (RelAll.sub h r)
theorem RelK.sub (h : Sub A B) : ∀ {vs : List (L2.Key × V)} {ds : List (D × D)}, RelK K A vs ds → RelK K B vs ds
  | _, _, .nil => .nil
  | _, _, .cons r t => .cons (Rel.sub h r) (RelK.sub h t)
theorem RelKT.sub (h : Sub A B) : ∀ {vs : List (List L2.Key × V)} {ds : List (D × D)}, RelKT K A vs ds → RelKT K B vs ds
  | _, _, .nil => .nil
  | _, _, .cons r t => .cons (Rel.sub h r) (RelKT.sub h t)
theorem RelAll.sub (h : Sub A B) : ∀ {vs : List V} {ds : List D}, RelAll K A vs ds → RelAll K B vs ds
  | _, _, .nil => .nil
  | _, _, .cons r t => .cons (Rel.sub h r) (RelAll.sub h t)
end
theorem RelAll.length : ∀ {vs : List V} {ds : List D}, RelAll K A vs ds → vs.length = ds.length
  | _, _, .nil => rfl
  | _, _, .cons _ t => by rw [List.length_cons, List.length_cons, RelAll.length t]
theorem RelAll.append : ∀ {vs ws : List V} {ds es : List D}, RelAll K A vs ds → RelAll K A ws es → RelAll K A (vs ++ ws) (ds ++ es)
  | _, _, _, _, .nil, q => q
  | _, _, _, _, .cons r t, q => .cons r (RelAll.append t q)
theorem RelAll.get : ∀ {vs : List V} {ds : List D} {i : Nat} {d : D}, RelAll K A vs ds → ds[i]? = some d → ∃ v, vs[i]? = some v ∧ Rel K A v d
  | _, _, _, _, .nil, e => by simp at e
  | _, _, 0, _, .cons r t, e => by
    simp at e
    subst e
    exact ⟨_, rfl, r⟩
  | _, _, i + 1, _, .cons r t, e => by
    obtain ⟨v, h1, h2⟩ := RelAll.get (i := i) t (by simpa using e)
    exact ⟨v, by simpa using h1, h2⟩
theorem RelAll.getV : ∀ {vs : List V} {ds : List D} {i : Nat} {v : V}, RelAll K A vs ds → vs[i]? = some v → ∃ d, ds[i]? = some d ∧ Rel K A v d
  | _, _, _, _, .nil, e => by simp at e
  | _, _, 0, _, .cons r t, e => by
    simp at e
    subst e
    exact ⟨_, rfl, r⟩
  | _, _, i + 1, _, .cons r t, e => by
    obtain ⟨v, h1, h2⟩ := RelAll.getV (i := i) t (by simpa using e)
    exact ⟨v, by simpa using h1, h2⟩
theorem RelAll.take : ∀ {vs : List V} {ds : List D} (n : Nat), RelAll K A vs ds → RelAll K A (vs.take n) (ds.take n)
  | _, _, 0, _ => .nil
  | _, _, _ + 1, .nil => .nil
  | _, _, n + 1, .cons r t => .cons r (RelAll.take n t)
theorem RelAll.drop : ∀ {vs : List V} {ds : List D} (n : Nat), RelAll K A vs ds → RelAll K A (vs.drop n) (ds.drop n)
  | _, _, 0, r => r
  | _, _, _ + 1, .nil => .nil
  | _, _, n + 1, .cons _ t => RelAll.drop n t
theorem RelAll.set {v : V} {d : D} (q : Rel K A v d) : ∀ {vs : List V} {ds : List D} (n : Nat), RelAll K A vs ds → RelAll K A (vs.set n v) (ds.set n d)
  | _, _, _, .nil => .nil
  | _, _, 0, .cons r t => .cons q t
  | _, _, n + 1, .cons r t => .cons r (RelAll.set q n t)
theorem RelAll.dropLast : ∀ {vs : List V} {ds : List D}, RelAll K A vs ds → RelAll K A vs.dropLast ds.dropLast := fun {vs ds} r => by
  rw [List.dropLast_eq_take, List.dropLast_eq_take, r.length]
  exact r.take _
theorem RelAll.rep : ∀ {vs : List V} {ds : List D} (n : Nat), RelAll K A vs ds → RelAll K A (List.replicate n vs).flatten (List.replicate n ds).flatten
  | _, _, 0, _ => .nil
  | _, _, n + 1, r => by
    rw [List.replicate_succ, List.replicate_succ, List.flatten_cons, List.flatten_cons]
    exact r.append (RelAll.rep n r)
theorem RelAll.reverse : ∀ {vs : List V} {ds : List D}, RelAll K A vs ds → RelAll K A vs.reverse ds.reverse
  | _, _, .nil => .nil
  | _, _, .cons r t => by
    rw [List.reverse_cons, List.reverse_cons]
    exact (RelAll.reverse t).append (.cons r .nil)
theorem RelAll.ints : ∀ {vs : List V} {ds : List D} {is : List Int}, RelAll K A vs ds → intsOf ds = some is → vs = is.map V.int
  | _, _, is, .nil, e => by
    simp [intsOf] at e
    subst e
    rfl
  | _, _, is, .cons (d := d) (ds := ds) r t, e => by
    cases r with
    | int i =>
      simp only [intsOf, Option.map_eq_some_iff] at e
      obtain ⟨js, h1, rfl⟩ := e
      rw [RelAll.ints t h1]
      rfl
    | _ => simp [intsOf, IP.scr, clo] at e
theorem RelAll.bools : ∀ {vs : List V} {ds : List D} {is : List Bool}, RelAll K A vs ds → boolsOf ds = some is → vs = is.map V.bl
  | _, _, is, .nil, e => by
    simp [boolsOf] at e
    subst e
    rfl
  | _, _, is, .cons (d := d) (ds := ds) r t, e => by
    cases r with
    | bl i =>
      simp only [boolsOf, Option.map_eq_some_iff] at e
      obtain ⟨js, h1, rfl⟩ := e
      rw [RelAll.bools t h1]
      rfl
    | _ => simp [boolsOf, IP.scr, clo] at e
theorem relAll_ints {is : List Int} : RelAll K A (is.map V.int) (is.map PyData.int) := by
  induction is with
  | nil => exact .nil
  | cons i is ih => exact .cons (.int i) ih
/-- a value without lists does not read lists -/
theorem Rel.dp : ∀ {v : V} {d : D}, Rel K A v d → SeqAt.shaped d = true → Dp K A v d := by
  have main : (∀ (v : V) (d : D), Rel K A v d → PyData.canLay0 d = true → Dp K A v d) := by
    intro v d r
    refine Rel.rec (motive_1 := fun v d _ => PyData.canLay0 d = true → Dp K A v d) (motive_2 := fun _ _ _ => True) (motive_3 := fun _ _ _ => True) (motive_4 := fun vs ds _ => PyData.canLayAll0 ds = true → DpAll K A vs ds) ?_ ?_ ?_ ?_ ?_ ?_ ?_ ?_ ?_ ?_ ?_ ?_ ?_ ?_ ?_ ?_ r
    · intro _; exact .non
    · intro b _; exact .bl b
    · intro i _; exact .int i
    · intro x _; exact .str x
    · intro a xs ds e r ih c
      exact .lst (SqL.of e) (ih (by simpa [PyData.canLay0] using c))
    · intro a xs ds e r ih c
      exact .tup (SqT.of e) (ih (by simpa [PyData.canLay0] using c))
    · intro a ns e c
      simp [IP.scr, PyData.canLay0] at c
    · intro a ks kvs e r ih c
      simp [PyData.canLay0] at c
    · intro a ks kvs e r ih c
      simp [PyData.canLay0] at c
    · intros
      rename_i c
      simp [clo, PyData.canLay0] at c
    · trivial
    · intros
      trivial
    · trivial
    · intros
      trivial
    · intro _; exact .nil
    · intro v vs d ds r1 r2 h1 h2 c
      have c' : PyData.canLay0 d = true ∧ PyData.canLayAll0 ds = true := by simpa [PyData.canLayAll0] using c
      exact .cons (h1 c'.1) (h2 c'.2)
  intro v d r h
  exact main v d r (SeqAt.canLay_of_shaped h)
end

/-! ### the state: the frozen part H0 of the heap, the owned lists and objects -/
/-- the class of the objects -/
def GC (K : PySem.W.Frag) : Addr := He.ga K "Growth"
def gFs (v0 : V) (q : Addr) (v2 v3 v4 v5 : V) : List (Str × V) := [("prime", v0), ("row", .ref q), ("length", v2), ("low", v3), ("older", v4), ("shift", v5)]
structure ObjV (K : PySem.W.Frag) (A H : Hp) (p q : Addr) (fs : List D) (dx : Addr) (v0 v2 v3 v4 v5 : V) (rs : List V) (d0 : D) (ds : List D) (d2 d3 d4 d5 : D) : Prop where
  fs : fs = [d0, .list ds, d2, d3, d4, d5]
  hp : H p = some (.ins (GC K) dx (gFs v0 q v2 v3 v4 v5))
  hq : H q = some (.lst rs)
  rr : RelAll K A rs ds
  r0 : Rel K A v0 d0
  r2 : Rel K A v2 d2
  r3 : Rel K A v3 d3
  r4 : Rel K A v4 d4
  r5 : Rel K A v5 d5
  np : A p = none
  nq : A q = none
/-- an object of the fields fs stands at p, its own list at q -/
def ObAt (K : PySem.W.Frag) (A H : Hp) (p q : Addr) (fs : List D) : Prop := ∃ dx v0 v2 v3 v4 v5 rs d0 ds d2 d3 d4 d5, ObjV K A H p q fs dx v0 v2 v3 v4 v5 rs d0 ds d2 d3 d4 d5
def RowOf (H : Hp) (p q : Addr) : Prop := ∃ C dx v0 v2 v3 v4 v5, H p = some (.ins C dx (gFs v0 q v2 v3 v4 v5))
theorem RowOf.inj {H : Hp} {p q q' : Addr} (h : RowOf H p q) (h' : RowOf H p q') : q = q' := by
  obtain ⟨C, dx, a, b, c, d, e, x⟩ := h
  obtain ⟨C', dx', a', b', c', d', e', y⟩ := h'
  rw [x] at y
  simp only [gFs, Option.some.injEq, HO.ins.injEq, List.cons.injEq, Prod.mk.injEq, true_and, and_true] at y
  have := y.2.2.2.1
  cases this
  rfl
theorem ObAt.row {K : PySem.W.Frag} {A H : Hp} {p q : Addr} {fs : List D} (h : ObAt K A H p q fs) : RowOf H p q := by
  obtain ⟨dx, v0, v2, v3, v4, v5, rs, d0, ds, d2, d3, d4, d5, h⟩ := h
  exact ⟨_, _, _, _, _, _, _, h.hp⟩
theorem ObAt.np {K : PySem.W.Frag} {A H : Hp} {p q : Addr} {fs : List D} (h : ObAt K A H p q fs) : A p = none := by
  obtain ⟨dx, v0, v2, v3, v4, v5, rs, d0, ds, d2, d3, d4, d5, h⟩ := h
  exact h.np
theorem ObAt.nq {K : PySem.W.Frag} {A H : Hp} {p q : Addr} {fs : List D} (h : ObAt K A H p q fs) : A q = none := by
  obtain ⟨dx, v0, v2, v3, v4, v5, rs, d0, ds, d2, d3, d4, d5, h⟩ := h
  exact h.nq
theorem ObAt.hp {K : PySem.W.Frag} {A H : Hp} {p q : Addr} {fs : List D} (h : ObAt K A H p q fs) : ∃ C dx l, H p = some (.ins C dx l) := by
  obtain ⟨dx, v0, v2, v3, v4, v5, rs, d0, ds, d2, d3, d4, d5, h⟩ := h
  exact ⟨_, _, _, h.hp⟩
theorem ObAt.hq {K : PySem.W.Frag} {A H : Hp} {p q : Addr} {fs : List D} (h : ObAt K A H p q fs) : ∃ rs, H q = some (.lst rs) := by
  obtain ⟨dx, v0, v2, v3, v4, v5, rs, d0, ds, d2, d3, d4, d5, h⟩ := h
  exact ⟨_, h.hq⟩
theorem ObAt.ne {K : PySem.W.Frag} {A H : Hp} {p q : Addr} {fs : List D} (h : ObAt K A H p q fs) : p ≠ q := fun z => by
  obtain ⟨C, dx, l, e⟩ := h.hp
  obtain ⟨rs, e'⟩ := h.hq
  rw [z, e'] at e
  cases e
theorem ObAt.mono {K : PySem.W.Frag} {A A' H H' : Hp} {p q : Addr} {fs : List D} (h : ObAt K A H p q fs) (s : Sub A A') (hp : H' p = H p) (hq : H' q = H q) (np : A' p = none) (nq : A' q = none) : ObAt K A' H' p q fs := by
  obtain ⟨dx, v0, v2, v3, v4, v5, rs, d0, ds, d2, d3, d4, d5, h⟩ := h
  exact ⟨dx, v0, v2, v3, v4, v5, rs, d0, ds, d2, d3, d4, d5, h.fs, hp ▸ h.hp, hq ▸ h.hq, h.rr.sub s, h.r0.sub s, h.r2.sub s, h.r3.sub s, h.r4.sub s, h.r5.sub s, np, nq⟩
/-- tables and what is told of the heap -/
def TbX : HO → Prop
  | .tbl _ => True
  | .ext _ => True
  | _ => False
/-- an owned dict of the entries kvs stands at p; t: its keys are tuples -/
def DAt (K : PySem.W.Frag) (A H : Hp) (p : Addr) (t : Bool) (kvs : List (D × D)) : Prop :=
  if t = true then ∃ ks, H p = some (.dT ks) ∧ RelKT K A ks kvs else ∃ ks, H p = some (.dK ks) ∧ RelK K A ks kvs
theorem DAt.there {K : PySem.W.Frag} {A H : Hp} {p : Addr} {t : Bool} {kvs : List (D × D)} (h : DAt K A H p t kvs) : ∃ o, H p = some o ∧ ∀ xs, o ≠ .lst xs := by
  cases t with
  | true =>
    obtain ⟨ks, e, _⟩ := h
    exact ⟨_, e, fun _ z => nomatch z⟩
  | false =>
    obtain ⟨ks, e, _⟩ := h
    exact ⟨_, e, fun _ z => nomatch z⟩
theorem DAt.nt {K : PySem.W.Frag} {A H : Hp} {p : Addr} {t : Bool} {kvs : List (D × D)} (h : DAt K A H p t kvs) {o : HO} (ho : H p = some o) : ¬ TbX o := by
  cases t with
  | true =>
    obtain ⟨ks, e, _⟩ := h
    rw [e] at ho
    cases ho
    exact fun z => z
  | false =>
    obtain ⟨ks, e, _⟩ := h
    rw [e] at ho
    cases ho
    exact fun z => z
theorem DAt.mono {K : PySem.W.Frag} {A A' H H' : Hp} {p : Addr} {t : Bool} {kvs : List (D × D)} (h : DAt K A H p t kvs) (s : Sub A A') (e : H' p = H p) : DAt K A' H' p t kvs := by
  cases t with
  | true =>
    obtain ⟨ks, e1, r⟩ := h
    exact ⟨ks, e ▸ e1, r.sub s⟩
  | false =>
    obtain ⟨ks, e1, r⟩ := h
    exact ⟨ks, e ▸ e1, r.sub s⟩
theorem DAt.rel {K : PySem.W.Frag} {A H : Hp} {p : Addr} {t : Bool} {kvs : List (D × D)} (h : DAt K A H p t kvs) {o : HO} (ho : H p = some o) (n : A p = none) : Rel K (upd A p o) (.ref p) (.dict kvs) := by
  cases t with
  | true =>
    obtain ⟨ks, e1, r⟩ := h
    rw [ho] at e1
    cases e1
    exact .dct upd_same (r.sub (Sub.new n))
  | false =>
    obtain ⟨ks, e1, r⟩ := h
    rw [ho] at e1
    cases e1
    exact .dck upd_same (r.sub (Sub.new n))
/-- the entry of a def: the written part, the heap, its frozen part, the lists and objects by reference (slot, address), the objects' own lists -/
structure Gx where
  K : PySem.W.Frag
  H : Hp
  H0 : Hp
  pr : List (Nat × Addr)
  qs : List Addr
  tb : List (Addr × Str) := []
def isOwn : Slot → Bool
  | .own _ => true
  | .prm _ => true
  | .obj _ => true
  | .pob _ => true
  | .dct _ _ => true
  | _ => false
def isOb : Slot → Bool
  | .obj _ => true
  | .pob _ => true
  | _ => false
def isPrm : Slot → Bool
  | .prm _ => true
  | .pob _ => true
  | _ => false
/-- what a slot's thing is made of -/
def Foot (H : Hp) (σ : L2.St) (i : Nat) (s : Slot) (a : Addr) : Prop := ∃ p, σ[i]? = some (some (V.ref p)) ∧ (a = p ∨ (isOb s = true ∧ RowOf H p a))
def Holds (H : Hp) (δ : Env) (σ : L2.St) (i : Nat) (a : Addr) : Prop := ∃ s, δ[i]? = some s ∧ isOwn s = true ∧ Foot H σ i s a
theorem Holds.of {H : Hp} {δ : Env} {σ : L2.St} {i : Nat} {a : Addr} {s : Slot} (h1 : δ[i]? = some s) (h2 : isOwn s = true) (h3 : σ[i]? = some (some (V.ref a))) : Holds H δ σ i a := ⟨s, h1, h2, a, h3, .inl rfl⟩
theorem Holds.ofRow {H : Hp} {δ : Env} {σ : L2.St} {i : Nat} {p a : Addr} {s : Slot} (h1 : δ[i]? = some s) (h2 : isOwn s = true) (h4 : isOb s = true) (h3 : σ[i]? = some (some (V.ref p))) (h5 : RowOf H p a) : Holds H δ σ i a := ⟨s, h1, h2, p, h3, .inr ⟨h4, h5⟩⟩
/-- the tables of the defs that make lambdas -/
def tbOf (K : PySem.W.Frag) (nms : List Str) : List (Addr × Str) := nms.map fun x => ((He.cT K (x, none)).2, (x ++ (".<locals>." : Str)) ++ ("<lambda>" : Str))
def SlotOk (G : Gx) (H0 H : Hp) (σ : L2.St) (i : Nat) : Slot → Prop
  | .un => True
  | .dat d => ∃ v, σ[i]? = some (some v) ∧ Rel G.K H0 v d
  | .own ds => ∃ p vs, σ[i]? = some (some (.ref p)) ∧ H p = some (.lst vs) ∧ RelAll G.K H0 vs ds ∧ H0 p = none ∧ G.H p = none
  | .prm ds => ∃ p vs, σ[i]? = some (some (.ref p)) ∧ (i, p) ∈ G.pr ∧ H p = some (.lst vs) ∧ RelAll G.K H0 vs ds ∧ H0 p = none
  | .obj fs => ∃ p q, σ[i]? = some (some (.ref p)) ∧ ObAt G.K H0 H p q fs ∧ G.H p = none ∧ G.H q = none
  | .pob fs => ∃ p q, σ[i]? = some (some (.ref p)) ∧ (i, p) ∈ G.pr ∧ q ∈ G.qs ∧ ObAt G.K H0 H p q fs
  | .dct t kvs => ∃ p, σ[i]? = some (some (.ref p)) ∧ DAt G.K H0 H p t kvs ∧ H0 p = none ∧ G.H p = none
  | .tb nms => G.tb = tbOf G.K nms
  | .exc a => σ[i]? = some (some (.ref a))
/-- the tables; they are no part of what is kept -/
def TabsG (G : Gx) (H0 H : Hp) : Prop := LamX.Tabs G.tb H ∧ ∀ p ∈ G.tb, G.H p.1 = none ∧ H0 p.1 = none ∧ ∀ a o, G.H a = some o → ¬ TbX o
theorem tabs_te0 {T : List (Addr × Str)} {H H' : Hp} (t : LamX.Tabs T H) (k : ∀ a o, H a = some o → TbX o → H' a = some o) : LamX.Tabs T H' := fun p hp => by
  obtain ⟨ps, h1, h2, h3⟩ := t p hp
  refine ⟨ps, k _ _ h1 trivial, h2, fun pos cv hc => ?_⟩
  obtain ⟨c, e1, e2⟩ := h3 pos cv hc
  exact ⟨c, e1, k _ _ e2 trivial⟩
theorem tabs_te {G : Gx} {A H H' : Hp} (t : TabsG G A H) (k : ∀ a o, H a = some o → TbX o → H' a = some o) : TabsG G A H' := ⟨tabs_te0 t.1 k, t.2⟩
theorem tabs_fro {G : Gx} {A B H : Hp} (t : TabsG G A H) (f : ∀ a o, B a = some o → (∃ u, A a = some u) ∨ H a = none ∨ ∃ o, H a = some o ∧ ¬ TbX o) : TabsG G B H := ⟨t.1, fun p hp => ⟨(t.2 p hp).1, by
  obtain ⟨ps, e, _⟩ := t.1 p hp
  cases q : B p.1 with
  | none => rfl
  | some o =>
    rcases f _ _ q with ⟨u, z⟩ | z | ⟨u, z, n⟩
    · rw [(t.2 p hp).2.1] at z
      cases z
    · rw [e] at z
      cases z
    · rw [e] at z
      cases z
      exact (n trivial).elim, (t.2 p hp).2.2⟩⟩
theorem tabs_upd {G : Gx} {A H : Hp} {p : Addr} {o o' : HO} (t : TabsG G A H) (hp : H p = some o) (n : ¬ TbX o) : TabsG G A (upd H p o') := tabs_te t fun a u e h => by
  have ha : a ≠ p := fun z => by
    rw [z, hp] at e
    cases e
    exact n h
  rw [upd_ne ha]
  exact e
theorem tabs_upd0 {G : Gx} {A H : Hp} {p : Addr} {o o' : HO} (t : TabsG G A H) (hp : H p = some o) (n : ¬ TbX o) : TabsG G (upd A p o') H := tabs_fro t fun a u e => by
  by_cases ha : a = p
  · rw [ha]
    exact .inr (.inr ⟨o, hp, n⟩)
  · rw [upd_ne ha] at e
    exact .inl ⟨u, e⟩
theorem tabs_new {G : Gx} {A H : Hp} {p : Addr} {o' : HO} (t : TabsG G A H) (hp : H p = none) : TabsG G A (upd H p o') := tabs_te t fun a u e _ => Sub.new hp a u e
theorem tabs_no {G : Gx} {A H : Hp} (h : G.tb = []) : TabsG G A H := ⟨fun p hp => (by rw [h] at hp; exact nomatch hp), fun p hp => (by rw [h] at hp; exact nomatch hp)⟩
structure Rl (G : Gx) (H0 H : Hp) (δ : Env) (σ : L2.St) : Prop where
  len : σ.length = δ.length
  sub : Sub H0 H
  up : Sub G.H0 H0
  keep : ∀ a o, G.H a = some o → (∀ p ∈ G.pr, p.2 ≠ a) → a ∉ G.qs → H a = some o
  fro : ∀ a o, H0 a = some o → (∃ u, G.H0 a = some u) ∨ G.H a = none
  slot : ∀ i s, δ[i]? = some s → SlotOk G H0 H σ i s
  inj : ∀ i j p, Holds H δ σ i p → Holds H δ σ j p → i = j
  prs : ∀ p ∈ G.pr, ∃ s : Slot, δ[p.1]? = some s ∧ isPrm s = true ∧ σ[p.1]? = some (some (V.ref p.2))
  qrs : ∀ q ∈ G.qs, ∃ (i : Nat) (fs : List D) (p : Addr), δ[i]? = some (Slot.pob fs) ∧ σ[i]? = some (some (V.ref p)) ∧ RowOf H p q
  tabs : TabsG G H0 H
def ResOk (G : Gx) (H0 H : Hp) (δ : Env) (σ : L2.St) : Res → V → Prop
  | .dat d, v => Rel G.K H0 v d
  | .new ds, v => ∃ p vs, v = .ref p ∧ H p = some (.lst vs) ∧ RelAll G.K H0 vs ds ∧ H0 p = none ∧ G.H p = none ∧ ∀ i, ¬ Holds H δ σ i p
  | .newD t kvs, v => ∃ p, v = .ref p ∧ DAt G.K H0 H p t kvs ∧ H0 p = none ∧ G.H p = none ∧ ∀ i, ¬ Holds H δ σ i p
def OpdOk (G : Gx) (H0 : Hp) (σ : L2.St) : Opd → V → Prop
  | .val d, v => Rel G.K H0 v d
  | .at i, v => σ[i]? = some (some v)
/-- the object itself in H, what it holds in H0 -/
def RelT (K : PySem.W.Frag) (H0 H : Hp) (v : V) (d : D) : Prop := Rel K H0 v d ∨ ∃ a xs ds, d = .list ds ∧ v = .ref a ∧ H a = some (.lst xs) ∧ RelAll K H0 xs ds
theorem prm_own {s : Slot} (h : isPrm s = true) : isOwn s = true := by cases s <;> first | rfl | cases h
section
variable {G : Gx} {H0 H H0' H' : Hp} {δ δ' : Env} {σ : L2.St} {p : Addr} {o : HO} {i j : Nat} {v : V} {d : D} {ds : List D} {vs : List V}
/-- where the objects stand -/
theorem Rl.ob (R : Rl G H0 H δ σ) {s : Slot} (e : δ[i]? = some s) (h : isOb s = true) (hi : σ[i]? = some (some (.ref p))) : ∃ q fs, ObAt G.K H0 H p q fs ∧ (s = .obj fs ∨ s = .pob fs) := by
  have sj := R.slot i s e
  cases s with
  | obj fs =>
    obtain ⟨p', q, e1, e2, _⟩ := sj
    rw [hi] at e1
    cases e1
    exact ⟨q, fs, e2, .inl rfl⟩
  | pob fs =>
    obtain ⟨p', q, e1, _, _, e2⟩ := sj
    rw [hi] at e1
    cases e1
    exact ⟨q, fs, e2, .inr rfl⟩
  | _ => cases h
/-- all that a slot's thing is made of is there, is not frozen, and is new or by reference -/
theorem Rl.held (R : Rl G H0 H δ σ) {a : Addr} (h : Holds H δ σ i a) : (∃ o, H a = some o) ∧ H0 a = none ∧ (G.H a = none ∨ (∃ z ∈ G.pr, z.2 = a) ∨ a ∈ G.qs) := by
  obtain ⟨s, e1, e2, p, e3, e4⟩ := h
  have sj := R.slot i s e1
  cases s with
  | own ds =>
    obtain ⟨p', vs, x1, x2, x3, x4, x5⟩ := sj
    rw [e3] at x1
    cases x1
    rcases e4 with rfl | ⟨z, _⟩
    · exact ⟨⟨_, x2⟩, x4, .inl x5⟩
    · cases z
  | prm ds =>
    obtain ⟨p', vs, x1, x0, x2, x3, x4⟩ := sj
    rw [e3] at x1
    cases x1
    rcases e4 with rfl | ⟨z, _⟩
    · exact ⟨⟨_, x2⟩, x4, .inr (.inl ⟨_, x0, rfl⟩)⟩
    · cases z
  | obj fs =>
    obtain ⟨p', q, x1, x2, x3, x4⟩ := sj
    rw [e3] at x1
    cases x1
    rcases e4 with rfl | ⟨_, z⟩
    · obtain ⟨C, dx, l, y⟩ := x2.hp
      exact ⟨⟨_, y⟩, x2.np, .inl x3⟩
    · obtain rfl := z.inj x2.row
      obtain ⟨rs, y⟩ := x2.hq
      exact ⟨⟨_, y⟩, x2.nq, .inl x4⟩
  | pob fs =>
    obtain ⟨p', q, x1, x0, x3, x2⟩ := sj
    rw [e3] at x1
    cases x1
    rcases e4 with rfl | ⟨_, z⟩
    · obtain ⟨C, dx, l, y⟩ := x2.hp
      exact ⟨⟨_, y⟩, x2.np, .inr (.inl ⟨_, x0, rfl⟩)⟩
    · obtain rfl := z.inj x2.row
      obtain ⟨rs, y⟩ := x2.hq
      exact ⟨⟨_, y⟩, x2.nq, .inr (.inr x3)⟩
  | dct t kvs =>
    obtain ⟨p', x1, x2, x3, x4⟩ := sj
    rw [e3] at x1
    cases x1
    rcases e4 with rfl | ⟨z, _⟩
    · obtain ⟨o, y, _⟩ := x2.there
      exact ⟨⟨o, y⟩, x3, .inl x4⟩
    · cases z
  | _ => cases e2
theorem Rl.prHold (R : Rl G H0 H δ σ) {z : Nat × Addr} (h : z ∈ G.pr) : Holds H δ σ z.1 z.2 := by
  obtain ⟨s, e1, e2, e3⟩ := R.prs z h
  exact .of e1 (prm_own e2) e3
theorem Rl.qrHold (R : Rl G H0 H δ σ) {q : Addr} (h : q ∈ G.qs) : ∃ i, Holds H δ σ i q := by
  obtain ⟨i, fs, p, e1, e2, e3⟩ := R.qrs q h
  exact ⟨i, .ofRow e1 rfl rfl e2 e3⟩
/-- a thing that nobody holds stays what it was at the entry -/
theorem Rl.keepN (R : Rl G H0 H δ σ) {a : Addr} (h : ∀ i, ¬ Holds H δ σ i a) (e : G.H a = some o) : H a = some o :=
  R.keep a o e (fun z hz e => h z.1 (e ▸ R.prHold hz)) (fun hq => by
    obtain ⟨i, hi⟩ := R.qrHold hq
    exact h i hi)
/-- the objects stand in another heap too -/
theorem RowOf.in {H H' : Hp} {p q : Addr} (h : RowOf H p q) (k : ∀ o, H p = some o → (∀ xs, o ≠ .lst xs) → H' p = some o) : RowOf H' p q := by
  obtain ⟨C, dx, a, b, c, d, e, x⟩ := h
  exact ⟨C, dx, a, b, c, d, e, k _ x fun _ z => nomatch z⟩
theorem Rl.holdsOf (R : Rl G H0 H δ σ) (k : ∀ a o, H a = some o → (∀ xs, o ≠ .lst xs) → H' a = some o) {a : Addr} (h : Holds H' δ σ i a) : Holds H δ σ i a := by
  obtain ⟨s, e1, e2, p, e3, e4⟩ := h
  refine ⟨s, e1, e2, p, e3, ?_⟩
  rcases e4 with e4 | ⟨e4, e5⟩
  · exact .inl e4
  · obtain ⟨q, fs, ob, _⟩ := R.ob e1 e4 e3
    have r := ob.row.in (k p)
    rw [e5.inj r]
    exact .inr ⟨e4, ob.row⟩
theorem keep_new (hp : H p = none) : ∀ a o', H a = some o' → (∀ xs, o' ≠ .lst xs) → upd H p o a = some o' := fun a o' e _ => Sub.new hp a o' e
theorem keep_lst {us ws : List V} (hp : H p = some (.lst us)) : ∀ a o', H a = some o' → (∀ xs, o' ≠ .lst xs) → upd H p (.lst ws) a = some o' := fun a o' e n => by
  by_cases ha : a = p
  · rw [ha, hp] at e
    cases e
    exact absurd rfl (n us)
  · rw [upd_ne ha]
    exact e
theorem keep_sub (h : Sub H H') : ∀ a o', H a = some o' → (∀ xs, o' ≠ .lst xs) → H' a = some o' := fun a o' e _ => h a o' e
theorem Rl.fresh (R : Rl G H0 H δ σ) (hp : H p = none) : H0 p = none ∧ G.H p = none ∧ ∀ i, ¬ Holds H δ σ i p := by
  have nh : ∀ i, ¬ Holds H δ σ i p := fun i h => by
    obtain ⟨⟨o, e⟩, _⟩ := R.held h
    rw [hp] at e
    cases e
  refine ⟨R.sub.none hp, ?_, nh⟩
  cases q : G.H p with
  | none => rfl
  | some o =>
    have := R.keepN nh q
    rw [hp] at this
    cases this
theorem SlotOk.mono {s : Slot} (h : SlotOk G H0 H σ i s) (h0 : Sub H0 H0') (hH : ∀ a o, H a = some o → isOwn s = true → Foot H σ i s a → H' a = some o) (hn : ∀ a, isOwn s = true → Foot H σ i s a → H0 a = none → H0' a = none) : SlotOk G H0' H' σ i s := by
  have ob : ∀ {p q : Addr} {fs : List D}, isOb s = true → isOwn s = true → σ[i]? = some (some (.ref p)) → ObAt G.K H0 H p q fs → ObAt G.K H0' H' p q fs := fun {p q fs} b1 b2 e1 e2 => by
    have f1 : Foot H σ i s p := ⟨p, e1, .inl rfl⟩
    have f2 : Foot H σ i s q := ⟨p, e1, .inr ⟨b1, e2.row⟩⟩
    obtain ⟨C, dx, l, y⟩ := e2.hp
    obtain ⟨rs, y'⟩ := e2.hq
    exact e2.mono h0 ((hH p _ y b2 f1).trans y.symm) ((hH q _ y' b2 f2).trans y'.symm) (hn p b2 f1 e2.np) (hn q b2 f2 e2.nq)
  cases s with
  | un => trivial
  | tb _ => exact h
  | exc _ => exact h
  | dat d =>
    obtain ⟨v, e, r⟩ := h
    exact ⟨v, e, r.sub h0⟩
  | own ds =>
    obtain ⟨p, vs, e1, e2, e3, e4, e5⟩ := h
    exact ⟨p, vs, e1, hH p _ e2 rfl ⟨p, e1, .inl rfl⟩, e3.sub h0, hn p rfl ⟨p, e1, .inl rfl⟩ e4, e5⟩
  | prm ds =>
    obtain ⟨p, vs, e1, e0, e2, e3, e4⟩ := h
    exact ⟨p, vs, e1, e0, hH p _ e2 rfl ⟨p, e1, .inl rfl⟩, e3.sub h0, hn p rfl ⟨p, e1, .inl rfl⟩ e4⟩
  | obj fs =>
    obtain ⟨p, q, e1, e2, e3⟩ := h
    exact ⟨p, q, e1, ob rfl rfl e1 e2, e3⟩
  | pob fs =>
    obtain ⟨p, q, e1, e0, e2, e3⟩ := h
    exact ⟨p, q, e1, e0, e2, ob rfl rfl e1 e3⟩
  | dct t kvs =>
    obtain ⟨p, e1, e2, e3, e4⟩ := h
    obtain ⟨o, y, _⟩ := e2.there
    exact ⟨p, e1, e2.mono h0 ((hH p _ y rfl ⟨p, e1, .inl rfl⟩).trans y.symm), hn p rfl ⟨p, e1, .inl rfl⟩ e3, e4⟩
theorem Rl.qrsOf (R : Rl G H0 H δ σ) (k : ∀ a o, H a = some o → (∀ xs, o ≠ .lst xs) → H' a = some o) : ∀ q ∈ G.qs, ∃ (i : Nat) (fs : List D) (p : Addr), δ[i]? = some (Slot.pob fs) ∧ σ[i]? = some (some (V.ref p)) ∧ RowOf H' p q := fun q hq => by
  obtain ⟨i, fs, p, e1, e2, e3⟩ := R.qrs q hq
  exact ⟨i, fs, p, e1, e2, e3.in (k p)⟩
/-- a new object that nobody names yet -/
theorem Rl.laid (R : Rl G H0 H δ σ) (hp : H p = none) : Rl G H0 (upd H p o) δ σ := by
  refine ⟨R.len, R.sub.trans (Sub.new hp), R.up, fun a u e h h' => Sub.new hp a u (R.keep a u e h h'), R.fro, fun i s e => ?_, fun i j a h1 h2 => R.inj i j a (R.holdsOf (keep_new hp) h1) (R.holdsOf (keep_new hp) h2), R.prs, R.qrsOf (keep_new hp), tabs_new R.tabs hp⟩
  exact (R.slot i s e).mono (Sub.refl _) (fun a vs e _ _ => Sub.new hp a _ e) (fun _ _ _ h => h)
/-- an object is frozen -/
theorem Rl.froze (R : Rl G H0 H δ σ) (hp : H p = some o) (h0 : H0 p = none) (hG : G.H p = none) (hh : ∀ i, ¬ Holds H δ σ i p) (hn : ¬ TbX o ∨ ∀ z ∈ G.tb, z.1 ≠ p := by exact .inl fun z => z) : Rl G (upd H0 p o) H δ σ := by
  refine ⟨R.len, fun a u e => ?_, R.up.trans (Sub.new h0), R.keep, fun a u e => ?_, fun i s e => ?_, R.inj, R.prs, R.qrs, (hn.elim (tabs_upd0 R.tabs hp) fun n => ⟨R.tabs.1, fun z hz => ⟨(R.tabs.2 z hz).1, by rw [upd_ne (n z hz)]; exact (R.tabs.2 z hz).2.1, (R.tabs.2 z hz).2.2⟩⟩)⟩
  · by_cases ha : a = p
    · subst ha
      rw [upd_same] at e
      cases e
      exact hp
    · rw [upd_ne ha] at e
      exact R.sub a u e
  · by_cases ha : a = p
    · subst ha
      exact .inr hG
    · rw [upd_ne ha] at e
      exact R.fro a u e
  · refine (R.slot i s e).mono (Sub.new h0) (fun a vs e _ _ => e) (fun a hs hi hn => ?_)
    by_cases ha : a = p
    · subst ha
      exact absurd ⟨s, e, hs, hi⟩ (hh i)
    · rw [upd_ne ha]
      exact hn
/-- a new object, at once frozen -/
theorem Rl.laid0 (R : Rl G H0 H δ σ) (hp : H p = none) : Rl G (upd H0 p o) (upd H p o) δ σ ∧ Sub H0 (upd H0 p o) :=
  have f := R.fresh hp
  ⟨(R.laid (o := o) hp).froze upd_same f.1 f.2.1 (fun i h => f.2.2 i (R.holdsOf (keep_new hp) h)) (.inr fun z hz e => by obtain ⟨ps, y, _⟩ := R.tabs.1 z hz; rw [e, hp] at y; cases y), Sub.new f.1⟩
/-- a result becomes data -/
theorem Rl.toD (R : Rl G H0 H δ σ) : ∀ {r : Res} {v : V}, ResOk G H0 H δ σ r v → ∃ H0', Rl G H0' H δ σ ∧ Sub H0 H0' ∧ Rel G.K H0' v r.toD
  | .dat d, v, h => ⟨H0, R, Sub.refl _, h⟩
  | .new ds, v, h => by
    obtain ⟨p, vs, rfl, e1, e2, e3, e4, e5⟩ := h
    exact ⟨_, R.froze e1 e3 e4 e5, Sub.new e3, .lst upd_same (e2.sub (Sub.new e3))⟩
  | .newD t kvs, v, h => by
    obtain ⟨p, rfl, e2, e3, e4, e5⟩ := h
    obtain ⟨o, y, _⟩ := e2.there
    exact ⟨_, R.froze y e3 e4 e5 (.inl (e2.nt y)), Sub.new e3, e2.rel y e3⟩
theorem Rl.slotAt (R : Rl G H0 H δ σ) {s : Slot} (e : δ[i]? = some s) : SlotOk G H0 H σ i s := R.slot i s e
/-- an owned list is changed -/
theorem Rl.put (R : Rl G H0 H δ σ) {s s' : Slot} (e : δ[i]? = some s) (hs : isOwn s = true) (hi : σ[i]? = some (some (.ref p)))
    (hv : RelAll G.K H0 vs ds) (h' : (s' = .own ds ∧ ∃ xs, s = .own xs) ∨ (s' = .prm ds ∧ ∃ xs, s = .prm xs)) : Rl G H0 (upd H p (.lst vs)) (δ.set i s') σ := by
  have hlt : i < δ.length := (List.getElem?_eq_some_iff.mp e).1
  have nob : isOb s = false ∧ isOb s' = false := by rcases h' with ⟨rfl, _, rfl⟩ | ⟨rfl, _, rfl⟩ <;> exact ⟨rfl, rfl⟩
  have hlst : ∃ us, H p = some (.lst us) := by
    have := R.slot i s e
    rcases h' with ⟨_, xs, rfl⟩ | ⟨_, xs, rfl⟩
    · obtain ⟨q, us, e1, e2, _⟩ := this
      rw [hi] at e1
      cases e1
      exact ⟨us, e2⟩
    · obtain ⟨q, us, e1, _, e2, _⟩ := this
      rw [hi] at e1
      cases e1
      exact ⟨us, e2⟩
  obtain ⟨us, hus⟩ := hlst
  have kk := keep_lst (ws := vs) hus
  have hold : ∀ j q, Holds (upd H p (.lst vs)) (δ.set i s') σ j q → Holds H δ σ j q := fun j q ⟨u, u1, u2, u3⟩ => by
    by_cases hj : i = j
    · subst hj
      rw [List.getElem?_set_self hlt] at u1
      cases u1
      obtain ⟨p', y1, y2⟩ := u3
      rcases y2 with y2 | ⟨y2, _⟩
      · exact ⟨s, e, hs, p', y1, .inl y2⟩
      · rw [nob.2] at y2
        cases y2
    · rw [List.getElem?_set_ne hj] at u1
      exact R.holdsOf kk ⟨u, u1, u2, u3⟩
  have n0 : H0 p = none := (R.held (Holds.of e hs hi)).2.1
  refine ⟨by rw [List.length_set]; exact R.len, fun a u h => ?_, R.up, fun a u h hh hq => ?_, R.fro, fun j u h => ?_, fun a b q h1 h2 => R.inj a b q (hold _ _ h1) (hold _ _ h2), fun z hz => ?_, fun q hq => ?_, tabs_upd R.tabs hus (fun z => z)⟩
  · rw [upd_ne (ne_of_none h n0)]
    exact R.sub a u h
  · have ha : a ≠ p := fun z => by
      subst z
      rcases (R.held (Holds.of e hs hi)).2.2 with x | ⟨z, x1, x2⟩ | x
      · rw [h] at x
        cases x
      · exact hh z x1 x2
      · exact hq x
    rw [upd_ne ha]
    exact R.keep a u h hh hq
  · by_cases hj : i = j
    · subst hj
      rw [List.getElem?_set_self hlt] at h
      cases h
      have := R.slot i s e
      rcases h' with ⟨rfl, xs, rfl⟩ | ⟨rfl, xs, rfl⟩
      · obtain ⟨q, _, e1, _, _, e2, e3⟩ := this
        rw [hi] at e1
        cases e1
        exact ⟨p, vs, hi, upd_same, hv, e2, e3⟩
      · obtain ⟨q, _, e1, e0, _, _, e2⟩ := this
        rw [hi] at e1
        cases e1
        exact ⟨p, vs, hi, e0, upd_same, hv, e2⟩
    · rw [List.getElem?_set_ne hj] at h
      refine (R.slot j u h).mono (Sub.refl _) (fun a o e' h1 h2 => ?_) (fun _ _ _ n => n)
      have ha : a ≠ p := fun z => by
        subst z
        exact hj (R.inj i j a (Holds.of e hs hi) ⟨u, h, h1, h2⟩)
      rw [upd_ne ha]
      exact e'
  · obtain ⟨u, e1, e2, e3⟩ := R.prs z hz
    by_cases hj : i = z.1
    · subst hj
      refine ⟨s', List.getElem?_set_self hlt, ?_, e3⟩
      rw [e1] at e
      cases e
      rcases h' with ⟨_, xs, rfl⟩ | ⟨rfl, _⟩
      · cases e2
      · rfl
    · exact ⟨u, by rw [List.getElem?_set_ne hj]; exact e1, e2, e3⟩
  · obtain ⟨j, fs, p', e1, e2, e3⟩ := R.qrs q hq
    refine ⟨j, fs, p', ?_, e2, e3.in (kk p')⟩
    have hj : i ≠ j := fun z => by
      subst z
      rw [e1] at e
      cases e
      cases nob.1
    rw [List.getElem?_set_ne hj]
    exact e1
/-- an owned thing is frozen -/
theorem Rl.freezeAt (R : Rl G H0 H δ σ) {s : Slot} (e : δ[i]? = some s) (hs1 : isOwn s = true) (hs2 : isPrm s = false) (hs3 : isOb s = false) (e1 : σ[i]? = some (some (.ref p))) (e2 : H p = some o) (e4 : H0 p = none) (e5 : G.H p = none) (rel : Rel G.K (upd H0 p o) (.ref p) d) (hn : ¬ TbX o := by exact fun z => z) : Rl G (upd H0 p o) H (δ.set i (.dat d)) σ := by
  have hlt : i < δ.length := (List.getElem?_eq_some_iff.mp e).1
  have hold : ∀ j q, Holds H (δ.set i (.dat d)) σ j q → Holds H δ σ j q ∧ j ≠ i := fun j q ⟨u, u1, u2, u3⟩ => by
    by_cases hj : i = j
    · subst hj
      rw [List.getElem?_set_self hlt] at u1
      cases u1
      cases u2
    · rw [List.getElem?_set_ne hj] at u1
      exact ⟨⟨u, u1, u2, u3⟩, Ne.symm hj⟩
  refine ⟨by rw [List.length_set]; exact R.len, fun a u h => ?_, R.up.trans (Sub.new e4), R.keep, fun a u h => ?_, fun j u h => ?_, fun a b q h1 h2 => R.inj a b q (hold _ _ h1).1 (hold _ _ h2).1, fun z hz => ?_, fun q hq => ?_, tabs_upd0 R.tabs e2 hn⟩
  · by_cases ha : a = p
    · subst ha
      rw [upd_same] at h
      cases h
      exact e2
    · rw [upd_ne ha] at h
      exact R.sub a u h
  · by_cases ha : a = p
    · subst ha
      exact .inr e5
    · rw [upd_ne ha] at h
      exact R.fro a u h
  · by_cases hj : i = j
    · subst hj
      rw [List.getElem?_set_self hlt] at h
      cases h
      exact ⟨_, e1, rel⟩
    · rw [List.getElem?_set_ne hj] at h
      refine (R.slot j u h).mono (Sub.new e4) (fun _ _ q _ _ => q) (fun a hs hi hn => ?_)
      have ha : a ≠ p := fun z => by
        subst z
        exact hj (R.inj i j a (Holds.of e hs1 e1) ⟨u, h, hs, hi⟩)
      rw [upd_ne ha]
      exact hn
  · obtain ⟨s', e6, e7, e8⟩ := R.prs z hz
    have hj : i ≠ z.1 := fun h => by
      rw [← h, e] at e6
      cases e6
      rw [hs2] at e7
      cases e7
    exact ⟨s', by rw [List.getElem?_set_ne hj]; exact e6, e7, e8⟩
  · obtain ⟨j, fs, p', e6, e7, e8⟩ := R.qrs q hq
    have hj : i ≠ j := fun h => by
      rw [← h, e] at e6
      cases e6
      cases hs3
    exact ⟨j, fs, p', by rw [List.getElem?_set_ne hj]; exact e6, e7, e8⟩
/-- an owned list or dict is frozen -/
theorem Rl.freeze (R : Rl G H0 H δ σ) (i : Nat) : ∃ H0', Rl G H0' H (freeze δ i) σ ∧ Sub H0 H0' := by
  cases e : δ[i]? with
  | none =>
    refine ⟨H0, ?_, Sub.refl _⟩
    unfold IP.freeze
    rw [e]
    exact R
  | some s =>
    cases s with
    | own xs =>
      obtain ⟨p, ws, e1, e2, e3, e4, e5⟩ := R.slot i _ e
      have ef : IP.freeze δ i = δ.set i (.dat (.list xs)) := by
        unfold IP.freeze
        rw [e]
      refine ⟨upd H0 p (.lst ws), ?_, Sub.new e4⟩
      rw [ef]
      exact R.freezeAt e rfl rfl rfl e1 e2 e4 e5 (.lst upd_same (e3.sub (Sub.new e4)))
    | dct t kvs =>
      obtain ⟨p, e1, e2, e4, e5⟩ := R.slot i _ e
      obtain ⟨o, y, _⟩ := e2.there
      have ef : IP.freeze δ i = δ.set i (.dat (.dict kvs)) := by
        unfold IP.freeze
        rw [e]
      refine ⟨upd H0 p o, ?_, Sub.new e4⟩
      rw [ef]
      exact R.freezeAt e rfl rfl rfl e1 y e4 e5 (e2.rel y e4) (e2.nt y)
    | _ =>
      refine ⟨H0, ?_, Sub.refl _⟩
      unfold IP.freeze
      rw [e]
      exact R
/-- a name is set -/
theorem Rl.set {r : Slot} (R : Rl G H0 H δ σ) (h : setSlot δ i r = some δ') (hr : SlotOk G H0 H (σ.set i (some v)) i r) (hnp : isPrm r = false) (hno : isOwn r = true → ∀ a, Foot H (σ.set i (some v)) i r a → ∀ j, ¬ Holds H δ σ j a) : Rl G H0 H δ' (σ.set i (some v)) := by
  unfold setSlot at h
  cases e : δ[i]? with
  | none =>
    rw [e] at h
    cases h
  | some s =>
    rw [e] at h
    have hlt : i < δ.length := (List.getElem?_eq_some_iff.mp e).1
    have hlt' : i < σ.length := by rw [R.len]; exact hlt
    have nprm : isPrm s = false := by
      cases s with
      | prm ds => cases h
      | pob ds => cases h
      | _ => rfl
    have hd : δ' = δ.set i r := by
      cases s with
      | prm ds => cases nprm
      | pob ds => cases nprm
      | _ => cases h; rfl
    subst hd
    have sig : ∀ j, i ≠ j → (σ.set i (some v))[j]? = σ[j]? := fun j hj => List.getElem?_set_ne hj
    have del : ∀ j, i ≠ j → (δ.set i r)[j]? = δ[j]? := fun j hj => List.getElem?_set_ne hj
    have ft : ∀ j u a, i ≠ j → (Foot H (σ.set i (some v)) j u a ↔ Foot H σ j u a) := fun j u a hj => by
      unfold Foot
      rw [sig j hj]
    refine ⟨by rw [List.length_set, List.length_set]; exact R.len, R.sub, R.up, R.keep, R.fro, fun j u h => ?_, fun a b q h1 h2 => ?_, fun z hz => ?_, fun q hq => ?_, R.tabs⟩
    · by_cases hj : i = j
      · subst hj
        rw [List.getElem?_set_self hlt] at h
        cases h
        exact hr
      · rw [del j hj] at h
        have sj := R.slot j u h
        cases u with
        | un => trivial
        | tb _ => exact sj
        | exc _ => exact (sig j hj).trans sj
        | dat d =>
          obtain ⟨w, e1, e2⟩ := sj
          exact ⟨w, by rw [sig j hj]; exact e1, e2⟩
        | own xs =>
          obtain ⟨q, ws, e1, e2⟩ := sj
          exact ⟨q, ws, by rw [sig j hj]; exact e1, e2⟩
        | prm xs =>
          obtain ⟨q, ws, e1, e2⟩ := sj
          exact ⟨q, ws, by rw [sig j hj]; exact e1, e2⟩
        | obj xs =>
          obtain ⟨q, ws, e1, e2⟩ := sj
          exact ⟨q, ws, by rw [sig j hj]; exact e1, e2⟩
        | pob xs =>
          obtain ⟨q, ws, e1, e2⟩ := sj
          exact ⟨q, ws, by rw [sig j hj]; exact e1, e2⟩
        | dct t kvs =>
          obtain ⟨q, e1, e2⟩ := sj
          exact ⟨q, by rw [sig j hj]; exact e1, e2⟩
    · have get : ∀ j, Holds H (δ.set i r) (σ.set i (some v)) j q → (j ≠ i ∧ Holds H δ σ j q) ∨ (j = i ∧ isOwn r = true ∧ Foot H (σ.set i (some v)) i r q) := fun j ⟨u, u1, u2, u3⟩ => by
        by_cases hj : i = j
        · subst hj
          rw [List.getElem?_set_self hlt] at u1
          cases u1
          exact .inr ⟨rfl, u2, u3⟩
        · rw [del j hj] at u1
          exact .inl ⟨Ne.symm hj, ⟨u, u1, u2, (ft j u q hj).mp u3⟩⟩
      rcases get a h1 with ⟨a1, a2⟩ | ⟨a1, a2, a3⟩
      · rcases get b h2 with ⟨b1, b2⟩ | ⟨b1, b2, b3⟩
        · exact R.inj a b q a2 b2
        · exact absurd a2 (hno b2 q b3 a)
      · rcases get b h2 with ⟨b1, b2⟩ | ⟨b1, b2, b3⟩
        · exact absurd b2 (hno a2 q a3 b)
        · rw [a1, b1]
    · obtain ⟨u, e1, e2, e3⟩ := R.prs z hz
      have hj : i ≠ z.1 := fun h => by
        rw [← h, e] at e1
        cases e1
        rw [nprm] at e2
        cases e2
      exact ⟨u, by rw [del _ hj]; exact e1, e2, by rw [sig _ hj]; exact e3⟩
    · obtain ⟨j, fs, p', e6, e7, e8⟩ := R.qrs q hq
      have hj : i ≠ j := fun h => by
        rw [← h, e] at e6
        cases e6
        cases nprm
      exact ⟨j, fs, p', by rw [del _ hj]; exact e6, by rw [sig _ hj]; exact e7, e8⟩
theorem Rl.freshU (R : Rl G H0 H δ σ) (hp : H p = none) : H0 p = none ∧ G.H p = none ∧ ∀ i, ¬ Holds (upd H p o) δ σ i p :=
  have f := R.fresh hp
  ⟨f.1, f.2.1, fun i h => f.2.2 i (R.holdsOf (keep_new hp) h)⟩
theorem Rl.freshI (R : Rl G H0 H δ σ) (hp : H p = none) : H0 p = none ∧ G.H p = none ∧ ∀ {o : HO} (i : Nat), ¬ Holds (upd H p o) δ σ i p :=
  have f := R.fresh hp
  ⟨f.1, f.2.1, fun i h => f.2.2 i (R.holdsOf (keep_new hp) h)⟩
theorem OpdOk.sub {o : Opd} (h : OpdOk G H0 σ o v) (s : Sub H0 H0') : OpdOk G H0' σ o v := by
  cases o with
  | val d => exact Rel.sub s h
  | «at» i => exact h
theorem Rl.rd (R : Rl G H0 H δ σ) {o : Opd} (h : OpdOk G H0 σ o v) (e : rd δ o = some d) : RelT G.K H0 H v d := by
  cases o with
  | val d' =>
    simp only [IP.rd, Option.some.injEq] at e
    subst e
    exact .inl h
  | «at» i =>
    simp only [IP.rd, Option.bind_eq_some_iff] at e
    obtain ⟨s, e1, e2⟩ := e
    have sj := R.slot i s e1
    have h' : σ[i]? = some (some v) := h
    cases s with
    | obj _ => cases e2
    | tb _ => cases e2
    | exc _ => cases e2
    | pob _ => cases e2
    | un => cases e2
    | dat d' =>
      simp only [slotD, Option.some.injEq] at e2
      subst e2
      obtain ⟨w, e3, e4⟩ := sj
      rw [h'] at e3
      cases e3
      exact .inl e4
    | own ds =>
      simp only [slotD, Option.some.injEq] at e2
      subst e2
      obtain ⟨q, ws, e3, e4, e5, _⟩ := sj
      rw [h'] at e3
      cases e3
      exact .inr ⟨q, ws, ds, rfl, rfl, e4, e5⟩
    | prm ds =>
      simp only [slotD, Option.some.injEq] at e2
      subst e2
      obtain ⟨q, ws, e3, _, e4, e5, _⟩ := sj
      rw [h'] at e3
      cases e3
      exact .inr ⟨q, ws, ds, rfl, rfl, e4, e5⟩
    | dct t kvs => cases e2
end
end IP
end
section
set_option Elab.async false
set_option linter.all false
set_option maxRecDepth 100000
set_option maxHeartbeats 2000000
namespace IP
open PySem L2
/-! ### the judgements -/
def kE (K : PySem.W.Frag) (f : Ev) : TE := fun σ H Q => ∃ G H0 δ r δ', G.K = K ∧ Rl G H0 H δ σ ∧ f δ = some (r, δ') ∧ ∀ v H0' H', Rl G H0' H' δ' σ → Sub H0 H0' → ResOk G H0' H' δ' σ r v → Q v H'
def kO (K : PySem.W.Frag) (f : Eo) : TE := fun σ H Q => ∃ G H0 δ o δ', G.K = K ∧ Rl G H0 H δ σ ∧ f δ = some (o, δ') ∧ ∀ v H0' H', Rl G H0' H' δ' σ → Sub H0 H0' → OpdOk G H0' σ o v → Q v H'
def kT (K : PySem.W.Frag) (f : Et) : TT := fun σ H Q => ∃ G H0 δ b δ', G.K = K ∧ Rl G H0 H δ σ ∧ f δ = some (b, δ') ∧ ∀ H0' H', Rl G H0' H' δ' σ → Sub H0 H0' → Q b H'
inductive OpdAll (G : Gx) (H0 : Hp) (σ : L2.St) : List Opd → List V → Prop
  | nil : OpdAll G H0 σ [] []
  | cons {o : Opd} {os : List Opd} {v : V} {vs : List V} : OpdOk G H0 σ o v → OpdAll G H0 σ os vs → OpdAll G H0 σ (o :: os) (v :: vs)
def kA (K : PySem.W.Frag) (f : Ea) : TA := fun σ H Q => ∃ G H0 δ os δ', G.K = K ∧ Rl G H0 H δ σ ∧ f δ = some (os, δ') ∧ ∀ vs H0' H', Rl G H0' H' δ' σ → Sub H0 H0' → OpdAll G H0' σ os vs → Q vs H'
def kP (K : PySem.W.Frag) (f : Env → Option (Option Int × Env)) : TO := fun σ H Q => ∃ G H0 δ o δ', G.K = K ∧ Rl G H0 H δ σ ∧ f δ = some (o, δ') ∧ ∀ H0' H', Rl G H0' H' δ' σ → Sub H0 H0' → Q o H'
def kS (K : PySem.W.Frag) (f : Es) : TS := fun D σ H => ∃ G H0 δ o δ', G.K = K ∧ Rl G H0 H δ σ ∧ f δ = some (o, δ') ∧ ∀ σ' H0' H', Rl G H0' H' δ' σ' → Sub H0 H0' → match o with
  | .nx => D.nx σ' H'
  | .bk => D.bk σ' H'
  | .ct => D.ct σ' H'
  | .rt r => ∀ v, ResOk G H0' H' δ' σ' r v → D.rt v H'
  | .ro i => ∀ v, σ'[i]? = some (some v) → D.rt v H'
abbrev XV (X : Cx) (e : Expr) (f : Ev) : Prop := PE X e (kE X.K f)
abbrev XO (X : Cx) (e : Expr) (f : Eo) : Prop := PE X e (kO X.K f)
abbrev XT (X : Cx) (e : Expr) (f : Et) : Prop := PT X e (kT X.K f)
abbrev XA (X : Cx) (es : List Expr) (f : Ea) : Prop := PA X es (kA X.K f)
abbrev XP (X : Cx) (o : Option Expr) (f : Env → Option (Option Int × Env)) : Prop := L2.PO X o (kP X.K f)
abbrev XS (X : Cx) (st : Stmt) (f : Es) : Prop := PS X st (kS X.K f)
abbrev XB (X : Cx) (st : List Stmt) (f : Es) : Prop := PSs X st (kS X.K f)

section
variable {X : Cx} {K : PySem.W.Frag}
theorem _root_.L2.PE.weak {e : Expr} {t t' : TE} (h : PE X e t) (w : ∀ σ H Q, t' σ H Q → t σ H Q) : PE X e t' := ⟨fun pins s σ H Q I q => h.run pins s σ H Q I (w σ H Q q)⟩
theorem _root_.L2.PT.weak {e : Expr} {t t' : TT} (h : PT X e t) (w : ∀ σ H Q, t' σ H Q → t σ H Q) : PT X e t' := ⟨fun pins s σ H Q I q => h.run pins s σ H Q I (w σ H Q q)⟩
theorem _root_.L2.PA.weak {e : List Expr} {t t' : TA} (h : PA X e t) (w : ∀ σ H Q, t' σ H Q → t σ H Q) : PA X e t' := ⟨fun pos pins s σ H Q I q => h.run pos pins s σ H Q I (w σ H Q q)⟩
theorem _root_.L2.PS.weak {e : Stmt} {t t' : TS} (h : PS X e t) (w : ∀ D σ H, t' D σ H → t D σ H) : PS X e t' := ⟨fun pins s σ H D I q => h.run pins s σ H D I (w D σ H q)⟩
theorem _root_.L2.PSs.weak {e : List Stmt} {t t' : TS} (h : PSs X e t) (w : ∀ D σ H, t' D σ H → t D σ H) : PSs X e t' := ⟨fun pins s σ H D I q => h.run pins s σ H D I (w D σ H q)⟩
theorem _root_.L2.PO.weak {e : Option Expr} {t t' : TO} (h : L2.PO X e t) (w : ∀ σ H Q, t' σ H Q → t σ H Q) : L2.PO X e t' := ⟨fun pins s σ H Q I q => h.run pins s σ H Q I (w σ H Q q)⟩
theorem OpdAll.sub {G : Gx} {A B : Hp} {σ : L2.St} {os : List Opd} {vs : List V} (h : OpdAll G A σ os vs) (s : Sub A B) : OpdAll G B σ os vs := by
  induction h with
  | nil => exact .nil
  | cons q _ ih => exact .cons (q.sub s) ih

/-! ### names, constants -/
theorem x_int {i j pos} : XV X (.Constant (.int i) j pos) (vC (.int i)) := pe_int.weak fun σ H Q ⟨G, H0, δ, r, δ', _, R, e, q⟩ => by
  cases e
  exact q _ _ _ R (Sub.refl _) (.int i)
theorem x_bl {i j pos} : XV X (.Constant (.bool i) j pos) (vC (.bool i)) := pe_bl.weak fun σ H Q ⟨G, H0, δ, r, δ', _, R, e, q⟩ => by
  cases e
  exact q _ _ _ R (Sub.refl _) (.bl i)
theorem x_non {j pos} : XV X (.Constant .none j pos) (vC .none) := pe_non.weak fun σ H Q ⟨G, H0, δ, r, δ', _, R, e, q⟩ => by
  cases e
  exact q _ _ _ R (Sub.refl _) .non
theorem x_str {i j pos} : XV X (.Constant (.str i) j pos) (vC (.str i)) := pe_str.weak fun σ H Q ⟨G, H0, δ, r, δ', _, R, e, q⟩ => by
  cases e
  exact q _ _ _ R (Sub.refl _) (.str i)
/-- a constant of the module -/
theorem x_glob {x : Str} {v : V} {u : Value} {d : D} {pos : Pos} (hg : Gl X x) (hm : X.mg x = some u) (r : RelV v u) (hd : ∀ H, Rel X.K H v d) (hdb : (x == ("__debug__" : Str)) = false := by decide) : XV X (.Name x pos) (vC d) := (pe_glob hg hm r hdb).weak fun σ H Q ⟨G, H0, δ, r, δ', eK, R, e, q⟩ => by
  cases e
  exact q _ _ _ R (Sub.refl _) (by show Rel G.K H0 v d; rw [eK]; exact hd H0)
theorem x_var {i : Nat} {x : Str} {pos : Pos} (hN : X.N[i]? = some x) (hv : Vis X.env.scope x) (hd : (x == ("__debug__" : Str)) = false := by decide) (hcd : (x == ("__classdict__" : Str)) = false := by decide) : XV X (.Name x pos) (vVar i) :=
  (pe_var hN hv hd hcd).weak fun σ H Q ⟨G, H0, δ, r, δ', _, R, e, q⟩ => by
    unfold vVar at e
    cases es : δ[i]? with
    | none =>
      rw [es] at e
      cases e
    | some s =>
      rw [es] at e
      have sj := R.slot i s es
      cases s with
      | dat d =>
        cases e
        obtain ⟨v, h1, h2⟩ := sj
        exact ⟨v, h1, q v _ _ R (Sub.refl _) h2⟩
      | own ds =>
        cases e
        obtain ⟨p, vs, h1, h2, h3, h4, h5⟩ := sj
        obtain ⟨H0', R', s'⟩ := R.freeze i
        refine ⟨.ref p, h1, q _ _ _ R' s' ?_⟩
        have hlt : i < δ.length := (List.getElem?_eq_some_iff.mp es).1
        have e2 : (IP.freeze δ i)[i]? = some (.dat (.list ds)) := by
          unfold IP.freeze
          rw [es]
          exact List.getElem?_set_self hlt
        obtain ⟨w, e3, e4⟩ := R'.slot i _ e2
        rw [h1] at e3
        cases e3
        exact e4
      | dct t kvs =>
        cases e
        obtain ⟨p, h1, h2, h4, h5⟩ := sj
        obtain ⟨H0', R', s'⟩ := R.freeze i
        refine ⟨.ref p, h1, q _ _ _ R' s' ?_⟩
        have hlt : i < δ.length := (List.getElem?_eq_some_iff.mp es).1
        have e2 : (IP.freeze δ i)[i]? = some (.dat (.dict kvs)) := by
          unfold IP.freeze
          rw [es]
          exact List.getElem?_set_self hlt
        obtain ⟨w, e3, e4⟩ := R'.slot i _ e2
        rw [h1] at e3
        cases e3
        exact e4
      | _ => cases e
theorem o_var {i : Nat} {x : Str} {pos : Pos} (hN : X.N[i]? = some x) (hv : Vis X.env.scope x) (hd : (x == ("__debug__" : Str)) = false := by decide) (hcd : (x == ("__classdict__" : Str)) = false := by decide) : XO X (.Name x pos) (oVar i) :=
  (pe_var hN hv hd hcd).weak fun σ H Q ⟨G, H0, δ, r, δ', _, R, e, q⟩ => by
    unfold oVar at e
    cases es : δ[i]? with
    | none =>
      rw [es] at e
      cases e
    | some s =>
      rw [es] at e
      have sj := R.slot i s es
      cases s with
      | dat d =>
        cases e
        obtain ⟨v, h1, h2⟩ := sj
        exact ⟨v, h1, q v _ _ R (Sub.refl _) h2⟩
      | own ds =>
        cases e
        obtain ⟨p, vs, h1, _⟩ := sj
        exact ⟨.ref p, h1, q _ _ _ R (Sub.refl _) h1⟩
      | prm ds =>
        cases e
        obtain ⟨p, vs, h1, _⟩ := sj
        exact ⟨.ref p, h1, q _ _ _ R (Sub.refl _) h1⟩
      | un => cases e
      | obj _ => cases e
      | pob _ => cases e
      | tb _ => cases e
      | exc _ => cases e
      | dct t kvs =>
        cases e
        obtain ⟨p, h1, h2, h4, h5⟩ := sj
        obtain ⟨H0', R', s'⟩ := R.freeze i
        refine ⟨.ref p, h1, q _ _ _ R' s' ?_⟩
        have hlt : i < δ.length := (List.getElem?_eq_some_iff.mp es).1
        have e2 : (IP.freeze δ i)[i]? = some (.dat (.dict kvs)) := by
          unfold IP.freeze
          rw [es]
          exact List.getElem?_set_self hlt
        obtain ⟨w, e3, e4⟩ := R'.slot i _ e2
        rw [h1] at e3
        cases e3
        exact e4
theorem o_v {e : Expr} {f : Ev} (h : XV X e f) : XO X e (oV f) := h.weak fun σ H Q ⟨G, H0, δ, o, δ', eK, R, e, q⟩ => by
  unfold oV at e
  simp only [Option.map_eq_some_iff] at e
  obtain ⟨⟨r, δ1⟩, e1, e2⟩ := e
  cases e2
  refine ⟨G, H0, δ, r, δ1, eK, R, e1, fun v H0' H' R' s ok => ?_⟩
  obtain ⟨H1, R1, s1, k1⟩ := R'.toD ok
  exact q v H1 H' R1 (s.trans s1) k1

/-! ### operators -/
/-- what is asked of an operation on two values -/
def OpS (K : PySem.W.Frag) (r : R2) (op : D → D → Option Res) : Prop :=
  ∀ (G : Gx) (H0 H : Hp) (δ : Env) (σ : L2.St) (x y : V) (dx dy : D) (res : Res), G.K = K → Rl G H0 H δ σ → RelT G.K H0 H x dx → RelT G.K H0 H y dy → op dx dy = some res →
    ∀ Q : VK, (∀ v H0' H', Rl G H0' H' δ σ → Sub H0 H0' → ResOk G H0' H' δ σ res v → Q v H') → r x y H Q
def UnS (K : PySem.W.Frag) (r : V → Hp → VK → Prop) (op : D → Option Res) : Prop :=
  ∀ (G : Gx) (H0 H : Hp) (δ : Env) (σ : L2.St) (x : V) (dx : D) (res : Res), G.K = K → Rl G H0 H δ σ → RelT G.K H0 H x dx → op dx = some res →
    ∀ Q : VK, (∀ v H0' H', Rl G H0' H' δ σ → Sub H0 H0' → ResOk G H0' H' δ σ res v → Q v H') → r x H Q
/-- the reading of two operands and an operation -/
theorem bin_read {r : R2} {op : D → D → Option Res} {f g : Eo} (hs : OpS K r op) {σ : L2.St} {H : Hp} {Q : VK} (h : kE K (fBin op f g) σ H Q) : tOp r (kO K f) (kO K g) σ H Q := by
  obtain ⟨G, H0, δ, res, δ', eK, R, e, q⟩ := h
  simp only [fBin, Option.bind_eq_some_iff, Option.map_eq_some_iff] at e
  obtain ⟨⟨o1, δ1⟩, e1, ⟨o2, δ2⟩, e2, dx, e3, dy, e4, r', e5, e6⟩ := e
  cases e6
  refine ⟨G, H0, δ, o1, δ1, eK, R, e1, fun v H0' H' R1 s1 k1 => ?_⟩
  refine ⟨G, H0', δ1, o2, δ2, eK, R1, e2, fun w H0'' H'' R2 s2 k2 => ?_⟩
  exact hs G H0'' H'' δ2 σ v w dx dy res eK R2 (R2.rd (k1.sub s2) e3) (R2.rd k2 e4) e5 Q fun z A B R3 s3 k3 => q z A B R3 ((s1.trans s2).trans s3) k3
theorem un_read {r : V → Hp → VK → Prop} {op : D → Option Res} {f : Eo} (hs : UnS K r op) {σ : L2.St} {H : Hp} {Q : VK} (h : kE K (fUn op f) σ H Q) : tUn r (kO K f) σ H Q := by
  obtain ⟨G, H0, δ, res, δ', eK, R, e, q⟩ := h
  simp only [fUn, Option.bind_eq_some_iff, Option.map_eq_some_iff] at e
  obtain ⟨⟨o1, δ1⟩, e1, dx, e3, r', e5, e6⟩ := e
  cases e6
  refine ⟨G, H0, δ, o1, δ1, eK, R, e1, fun v H0' H' R1 s1 k1 => ?_⟩
  exact hs G H0' H' δ1 σ v dx res eK R1 (R1.rd k1 e3) e5 Q fun z A B R3 s3 k3 => q z A B R3 (s1.trans s3) k3
variable {a b c : Expr} {f g h : Eo} {pos : Pos}
theorem x_bin {o : Operator} {r : R2} {op : D → D → Option Res} (ho : OpR X (binaryOp o) r) (hs : OpS X.K r op) (ha : XO X a f) (hb : XO X b g) : XV X (.BinOp a o b pos) (fBin op f g) :=
  (pe_op ho ha hb).weak fun _ _ _ h => bin_read hs h
theorem x_cmp {o : CmpOp} {r : R2} {op : D → D → Option Res} (ho : OpR X (compareOp o) r) (hs : OpS X.K r op) (ha : XO X a f) (hb : XO X b g) (hm : behindInMarks o b = false) : XV X (.Compare a [o] [b] pos) (fBin op f g) :=
  (pe_cmpR ho ha hb hm).weak fun _ _ _ h => bin_read hs h
theorem x_ix {r : R2} {op : D → D → Option Res} (hr : IxR X r) (hs : OpS X.K r op) (ha : XO X a f) (hb : XO X b g) (hp : PlainIx b) : XV X (.Subscript a b pos) (fBin op f g) :=
  (pe_ix hr ha hb hp).weak fun _ _ _ h => bin_read hs h
theorem x_un {o : UnaryOp} {r : V → Hp → VK → Prop} {op : D → Option Res} (ho : UnR X (unaryOp o) r) (hs : UnS X.K r op) (ha : XO X a f) : XV X (.UnaryOp o a pos) (fUn op f) :=
  (pe_un ho ha).weak fun _ _ _ h => un_read hs h
/-- a comparison as a test -/
theorem x_cmpT {o : CmpOp} {r : R2} {op : D → D → Option Res} (ho : OpR X (compareOp o) r) (hs : OpS X.K r op) (ha : XO X a f) (hb : XO X b g) (hm : behindInMarks o b = false) : XT X (.Compare a [o] [b] pos) (tB (fBin op f g)) :=
  (pt_cmpR ho ha hb hm).weak fun σ H Q ⟨G, H0, δ, res, δ', eK, R, e, q⟩ => by
    simp only [tB, Option.bind_eq_some_iff] at e
    obtain ⟨⟨r1, δ1⟩, e1, e2⟩ := e
    cases r1 with
    | new ds => cases e2
    | newD _ _ => cases e2
    | dat d =>
      cases d with
      | bool k =>
        cases e2
        refine bin_read hs ⟨G, H0, δ, _, _, eK, R, e1, fun v H0' H' R' s k1 => ?_⟩
        cases k1
        exact ⟨_, rfl, q _ _ R' s⟩
      | _ => cases e2
theorem x_chain {o1 o2 : CmpOp} {r1 r2 : R2} {p1 p2 : D → D → Option Res} (h1 : OpR X (compareOp o1) r1) (h2 : OpR X (compareOp o2) r2) (s1 : OpS X.K r1 p1) (s2 : OpS X.K r2 p2) (ha : XO X a f) (hb : XO X b g) (hc : XO X c h)
    (hm : lastMarks [o1, o2] [b, c] = false := by with_unfolding_all rfl) : XV X (.Compare a [o1, o2] [b, c] pos) (vChain p1 p2 f g h) :=
  (pe_chain h1 h2 ha hb hc hm).weak fun σ H Q ⟨G, H0, δ, res, δ', eK, R, e, q⟩ => by
    simp only [vChain, Option.bind_eq_some_iff] at e
    obtain ⟨⟨o1, δ1⟩, e1, ⟨o2, δ2⟩, e2, dx, e3, dy, e4, r', e5, e6⟩ := e
    refine ⟨G, H0, δ, o1, δ1, eK, R, e1, fun v H0' H' R1 s1' k1 => ?_⟩
    refine ⟨G, H0', δ1, o2, δ2, eK, R1, e2, fun w H0'' H'' R2 s2' k2 => ?_⟩
    refine s1 G H0'' H'' δ2 σ v w dx dy r' eK R2 (R2.rd (k1.sub s2') e3) (R2.rd k2 e4) e5 _ fun z A B R3 s3 k3 => ?_
    cases r' with
    | new _ => cases e6
    | newD _ _ => cases e6
    | dat d =>
      cases d with
      | bool t =>
        cases k3
        cases t with
        | false =>
          cases e6
          exact ⟨false, rfl, iteF (q _ A B R3 ((s1'.trans s2').trans s3) (.bl false))⟩
        | true =>
          simp only [Option.bind_eq_some_iff, Option.map_eq_some_iff] at e6
          obtain ⟨⟨o3, δ3⟩, e7, dy', e8, dz, e9, r'', e10, e11⟩ := e6
          cases e11
          refine ⟨true, rfl, iteT ?_⟩
          refine ⟨G, A, δ2, o3, δ3, eK, R3, e7, fun u A' B' R4 s4 k4 => ?_⟩
          exact s2 G A' B' δ3 σ w u dy' dz _ eK R4 (R4.rd ((k2.sub s3).sub s4) e8) (R4.rd k4 e9) e10 Q fun z C C' R5 s5 k5 => q z C C' R5 ((((s1'.trans s2').trans s3).trans s4).trans s5) k5
      | _ => cases e6

/-! ### tests -/
theorem truth_ok {G : Gx} {H0 H : Hp} {v : V} {d : D} {t : Bool} (h : RelT G.K H0 H v d) (s : Sub H0 H) (e : truth d = some t) : TruV G.K v H t := by
  rcases h with h | ⟨p, xs, ds, rfl, rfl, h1, h2⟩
  · cases h with
    | non =>
      cases e
      rfl
    | bl b =>
      cases e
      rfl
    | int i =>
      cases e
      rfl
    | str x => cases e
    | lst h1 h2 =>
      rename_i p xs ds
      simp only [truth, Option.some.injEq] at e
      subst e
      refine .inl ⟨xs, SqL.of (s _ _ h1), ?_⟩
      cases h2 <;> rfl
    | tup h1 h2 =>
      rename_i p xs ds
      simp only [truth, Option.some.injEq] at e
      subst e
      refine .inr (.inl ⟨xs, SqT.of (s _ _ h1), ?_⟩)
      cases h2 <;> rfl
    | scr _ => cases e
    | dck _ _ => cases e
    | dct _ _ => cases e
    | lam _ _ _ _ => cases e
  · simp only [truth, Option.some.injEq] at e
    subst e
    refine .inl ⟨xs, SqL.of h1, ?_⟩
    cases h2 <;> rfl
theorem x_truth (ha : XO X a f) (he : ∀ whole, isTrue a X.env whole = (do let v ← whole; standAt a.pos; holding [v] (truthy v))) : XT X a (tV f) :=
  (pt_truth ha he).weak fun σ H Q ⟨G, H0, δ, res, δ', eK, R, e, q⟩ => by
    simp only [tV, Option.bind_eq_some_iff, Option.map_eq_some_iff] at e
    obtain ⟨⟨o1, δ1⟩, e1, d, e2, t, e3, e4⟩ := e
    cases e4
    refine ⟨G, H0, δ, o1, δ1, eK, R, e1, fun v H0' H' R1 s1 k1 => ?_⟩
    refine ⟨_, ?_, q H0' H' R1 s1⟩
    have := truth_ok (G := G) (R1.rd k1 e2) R1.sub e3
    rw [eK] at this
    exact this
theorem x_and {A B : Et} {rest : List Expr} (ha : XT X a A) (hb : PW X (.BoolOp .And (b :: rest) pos) (kT X.K B)) : PW X (.BoolOp .And (a :: b :: rest) pos) (kT X.K (tAnd A B)) := by
  refine ⟨fun wh pins s σ H Q I h => (pw_and ha hb).run wh pins s σ H Q I ?_⟩
  obtain ⟨G, H0, δ, res, δ', eK, R, e, q⟩ := h
  simp only [tAnd, Option.bind_eq_some_iff] at e
  obtain ⟨⟨t, δ1⟩, e1, e2⟩ := e
  refine ⟨G, H0, δ, t, δ1, eK, R, e1, fun H0' H' R1 s1 => ?_⟩
  cases t with
  | true => exact iteT ⟨G, H0', δ1, res, δ', eK, R1, e2, fun A' B' R2 s2 => q _ _ R2 (s1.trans s2)⟩
  | false =>
    cases e2
    exact iteF (q _ _ R1 s1)
theorem x_or {A B : Et} {rest : List Expr} (ha : XT X a A) (hb : PW X (.BoolOp .Or (b :: rest) pos) (kT X.K B)) : PW X (.BoolOp .Or (a :: b :: rest) pos) (kT X.K (tOr A B)) := by
  refine ⟨fun wh pins s σ H Q I h => (pw_or ha hb).run wh pins s σ H Q I ?_⟩
  obtain ⟨G, H0, δ, res, δ', eK, R, e, q⟩ := h
  simp only [tOr, Option.bind_eq_some_iff] at e
  obtain ⟨⟨t, δ1⟩, e1, e2⟩ := e
  refine ⟨G, H0, δ, t, δ1, eK, R, e1, fun H0' H' R1 s1 => ?_⟩
  cases t with
  | false => exact iteF ⟨G, H0', δ1, res, δ', eK, R1, e2, fun A' B' R2 s2 => q _ _ R2 (s1.trans s2)⟩
  | true =>
    cases e2
    exact iteT (q _ _ R1 s1)
theorem x_not {A : Et} (ha : XT X a A) : XT X (.UnaryOp .Not a pos) (tNot A) := (pt_not ha).weak fun σ H Q ⟨G, H0, δ, res, δ', eK, R, e, q⟩ => by
  simp only [tNot, Option.map_eq_some_iff] at e
  obtain ⟨⟨t, δ1⟩, e1, e2⟩ := e
  cases e2
  exact ⟨G, H0, δ, t, δ1, eK, R, e1, fun H0' H' R1 s1 => q _ _ R1 s1⟩
/-- .. as values of bools -/
theorem x_andV {A B : Ev} {rest : List Expr} (ha : XV X a A) (hb : XV X (.BoolOp .And (b :: rest) pos) B) : XV X (.BoolOp .And (a :: b :: rest) pos) (vAnd A B) := (pe_and ha hb).weak fun σ H Q ⟨G, H0, δ, res, δ', eK, R, e, q⟩ => by
  simp only [vAnd, Option.bind_eq_some_iff] at e
  obtain ⟨⟨t, δ1⟩, e1, e2⟩ := e
  refine ⟨G, H0, δ, t, δ1, eK, R, e1, fun v H0' H' R1 s1 k1 => ?_⟩
  cases t with
  | new _ => cases e2
  | newD _ _ => cases e2
  | dat d =>
    cases d with
    | bool t =>
      cases k1
      cases t with
      | true => exact ⟨true, rfl, iteT ⟨G, H0', δ1, res, δ', eK, R1, e2, fun v A' B' R2 s2 k2 => q _ _ _ R2 (s1.trans s2) k2⟩⟩
      | false =>
        cases e2
        exact ⟨false, rfl, iteF (q _ _ _ R1 s1 (.bl false))⟩
    | _ => cases e2
theorem x_orV {A B : Ev} {rest : List Expr} (ha : XV X a A) (hb : XV X (.BoolOp .Or (b :: rest) pos) B) : XV X (.BoolOp .Or (a :: b :: rest) pos) (vOr A B) := (pe_or ha hb).weak fun σ H Q ⟨G, H0, δ, res, δ', eK, R, e, q⟩ => by
  simp only [vOr, Option.bind_eq_some_iff] at e
  obtain ⟨⟨t, δ1⟩, e1, e2⟩ := e
  refine ⟨G, H0, δ, t, δ1, eK, R, e1, fun v H0' H' R1 s1 k1 => ?_⟩
  cases t with
  | new _ => cases e2
  | newD _ _ => cases e2
  | dat d =>
    cases d with
    | bool t =>
      cases k1
      cases t with
      | false => exact ⟨false, rfl, iteF ⟨G, H0', δ1, res, δ', eK, R1, e2, fun v A' B' R2 s2 k2 => q _ _ _ R2 (s1.trans s2) k2⟩⟩
      | true =>
        cases e2
        exact ⟨true, rfl, iteT (q _ _ _ R1 s1 (.bl true))⟩
    | _ => cases e2
theorem x_ite {T : Et} {A B : Ev} (ht : XT X c T) (ha : XV X a A) (hb : XV X b B) : XV X (.IfExp c a b pos) (vIte T A B) := (pe_ifExp ht ha hb).weak fun σ H Q ⟨G, H0, δ, res, δ', eK, R, e, q⟩ => by
  simp only [vIte, Option.bind_eq_some_iff] at e
  obtain ⟨⟨t, δ1⟩, e1, e2⟩ := e
  refine ⟨G, H0, δ, t, δ1, eK, R, e1, fun H0' H' R1 s1 => ?_⟩
  cases t with
  | true => exact iteT ⟨G, H0', δ1, res, δ', eK, R1, e2, fun v A' B' R2 s2 k2 => q _ _ _ R2 (s1.trans s2) k2⟩
  | false => exact iteF ⟨G, H0', δ1, res, δ', eK, R1, e2, fun v A' B' R2 s2 k2 => q _ _ _ R2 (s1.trans s2) k2⟩

/-! ### displays -/
theorem xa_nil : XA X [] aNil := pa_nil.weak fun σ H Q ⟨G, H0, δ, res, δ', eK, R, e, q⟩ => by
  cases e
  exact q [] _ _ R (Sub.refl _) .nil
theorem xa_cons {es : List Expr} {A : Ea} (ha : XO X a f) (hb : XA X es A) (hs : starEach (a :: es) X.env = (false, eval a X.env) :: starEach es X.env := by rfl) : XA X (a :: es) (aCons f A) := (pa_cons ha hb hs).weak fun σ H Q ⟨G, H0, δ, res, δ', eK, R, e, q⟩ => by
  simp only [aCons, Option.bind_eq_some_iff, Option.map_eq_some_iff] at e
  obtain ⟨⟨o1, δ1⟩, e1, ⟨os, δ2⟩, e2, e3⟩ := e
  cases e3
  refine ⟨G, H0, δ, o1, δ1, eK, R, e1, fun v H0' H' R1 s1 k1 => ?_⟩
  exact ⟨G, H0', δ1, os, δ2, eK, R1, e2, fun vs A' B' R2 s2 k2 => q _ _ _ R2 (s1.trans s2) (.cons (k1.sub s2) k2)⟩
theorem OpdAll.vals {G : Gx} {H0 : Hp} {σ : L2.St} : ∀ {os : List Opd} {vs : List V} {ds : List D}, OpdAll G H0 σ os vs → vals os = some ds → RelAll G.K H0 vs ds
  | _, _, _, .nil, e => by
    cases e
    exact .nil
  | _, _, _, .cons (o := o) h t, e => by
    cases o with
    | val d =>
      simp only [IP.vals, Option.map_eq_some_iff] at e
      obtain ⟨es, e1, rfl⟩ := e
      exact .cons h (OpdAll.vals t e1)
    | «at» i => cases e
theorem line_le {n : Nat} (h : n ≤ line) : n ≤ sizeLine := Nat.le_trans h (by rw [sizeLine_eq]; decide)
theorem x_tup {es : List Expr} {j : Nat} {A : Ea} (ha : XA X es A) : XV X (.Tuple es j pos) (vTup A) := (pe_tup ha).weak fun σ H Q ⟨G, H0, δ, res, δ', eK, R, e, q⟩ => by
  simp only [vTup, Option.bind_eq_some_iff] at e
  obtain ⟨⟨os, δ1⟩, e1, ds, e2, e3⟩ := e
  split at e3
  · rename_i hl
    cases e3
    refine ⟨G, H0, δ, os, δ1, eK, R, e1, fun vs H0' H' R1 s1 k1 => ?_⟩
    have ra := k1.vals e2
    refine ⟨line_le (by rw [ra.length]; exact hl), fun p hp => ?_⟩
    obtain ⟨R2, s2⟩ := R1.laid0 (o := .tup vs) hp
    exact q _ _ _ R2 (s1.trans s2) (.tup upd_same (ra.sub s2))
  · cases e3
theorem x_lst {es : List Expr} {A : Ea} (ha : XA X es A) : XV X (.List es pos) (vLst A) := (pe_lst ha).weak fun σ H Q ⟨G, H0, δ, res, δ', eK, R, e, q⟩ => by
  simp only [vLst, Option.bind_eq_some_iff] at e
  obtain ⟨⟨os, δ1⟩, e1, ds, e2, e3⟩ := e
  split at e3
  · rename_i hl
    cases e3
    refine ⟨G, H0, δ, os, δ1, eK, R, e1, fun vs H0' H' R1 s1 k1 => ?_⟩
    have ra := k1.vals e2
    refine ⟨line_le (by rw [ra.length]; exact hl), fun p hp => ?_⟩
    have f := R1.freshU (o := .lst vs) hp
    exact q _ _ _ (R1.laid hp) s1 ⟨p, vs, rfl, upd_same, ra, f.1, f.2.1, f.2.2⟩
  · cases e3

/-! ### slices -/
theorem xp_none : XP X none pNo := po_none.weak fun σ H Q ⟨G, H0, δ, res, δ', eK, R, e, q⟩ => by
  cases e
  exact q _ _ R (Sub.refl _)
theorem xp_some (ha : XO X a f) : XP X (some a) (pSo f) := (po_some ha).weak fun σ H Q ⟨G, H0, δ, res, δ', eK, R, e, q⟩ => by
  simp only [pSo, Option.bind_eq_some_iff] at e
  obtain ⟨⟨o, δ1⟩, e1, e2⟩ := e
  refine ⟨G, H0, δ, o, δ1, eK, R, e1, fun v H0' H' R1 s1 k1 => ?_⟩
  cases o with
  | «at» i => cases e2
  | val d =>
    cases d with
    | int i =>
      cases e2
      cases k1
      exact ⟨i, rfl, q _ _ R1 s1⟩
    | _ => cases e2
theorem clampIx_eq (n d : Nat) (o : Option Int) : clampIx n d o = HT.sIx n d o := by cases o <;> rfl
theorem cut_rel {K : PySem.W.Frag} {H0 : Hp} {vs : List V} {ds : List D} (r : RelAll K H0 vs ds) (lo hi : Option Int) : RelAll K H0 (cutV vs lo hi) (cutD ds lo hi) := by
  unfold cutV cutD
  rw [clampIx_eq, clampIx_eq, r.length]
  exact (r.drop _).take _
theorem x_sl {lo hi : Option Expr} {L U : Env → Option (Option Int × Env)} {p2 : Pos} (ha : XO X a f) (hl : XP X lo L) (hu : XP X hi U) : XV X (.Subscript a (.Slice lo hi none p2) pos) (fSl f L U) :=
  (pe_slice (sl_list.or sl_tupA) ha hl hu).weak fun σ H Q ⟨G, H0, δ, res, δ', eK, R, e, q⟩ => by
    simp only [fSl, Option.bind_eq_some_iff] at e
    obtain ⟨⟨o, δ1⟩, e1, ⟨l, δ2⟩, e2, ⟨u, δ3⟩, e3, d, e4, e5⟩ := e
    refine ⟨G, H0, δ, o, δ1, eK, R, e1, fun v H0' H' R1 s1 k1 => ?_⟩
    refine ⟨G, H0', δ1, l, δ2, eK, R1, e2, fun A A' R2 s2 => ?_⟩
    refine ⟨G, A, δ2, u, δ3, eK, R2, e3, fun B B' R3 s3 => ?_⟩
    have rr := R3.rd ((k1.sub s2).sub s3) e4
    have list : ∀ p xs ds, v = .ref p → B' p = some (.lst xs) → RelAll G.K B xs ds → d = .list ds → rSlL X.K v l u B' Q ∨ rSlA X.K v l u B' Q := by
      intro p xs ds ev h1 h2 ed
      subst ed ev
      cases e5
      refine .inl ⟨p, xs, rfl, SqL.of h1, fun z hz => ?_⟩
      have fr := R3.freshU (o := .lst (cutV xs l u)) hz
      exact q _ _ _ (R3.laid hz) ((s1.trans s2).trans s3) ⟨z, _, rfl, upd_same, cut_rel h2 l u, fr.1, fr.2.1, fr.2.2⟩
    rcases rr with rr | ⟨p, xs, ds, ed, ev, h1, h2⟩
    · cases rr with
      | lst h1 h2 => exact list _ _ _ rfl (R3.sub _ _ h1) h2 rfl
      | tup h1 h2 =>
        rename_i p xs ds
        cases e5
        refine .inr ⟨p, xs, rfl, by rw [← eK]; exact SqT.of (R3.sub _ _ h1), fun hw => ?_, fun _ z hz => ?_⟩
        · refine q _ _ _ R3 ((s1.trans s2).trans s3) ?_
          have ec : cutD ds l u = ds := by
            unfold cutD
            rw [clampIx_eq, clampIx_eq, ← h2.length, hw.1, hw.2]
            simp [h2.length]
          show Rel G.K B (.ref p) (.tuple (cutD ds l u))
          rw [ec]
          exact .tup h1 h2
        · obtain ⟨R4, s4⟩ := R3.laid0 (o := .tup (cutV xs l u)) hz
          exact q _ _ _ R4 (((s1.trans s2).trans s3).trans s4) (.tup upd_same ((cut_rel h2 l u).sub s4))
      | _ => cases e5
    · exact list _ _ _ ev h1 h2 ed

/-! ### builtins -/
inductive RelTAll (K : PySem.W.Frag) (H0 H : Hp) : List V → List D → Prop
  | nil : RelTAll K H0 H [] []
  | cons {v : V} {vs : List V} {d : D} {ds : List D} : RelT K H0 H v d → RelTAll K H0 H vs ds → RelTAll K H0 H (v :: vs) (d :: ds)
theorem Rl.rdAll {G : Gx} {H0 H : Hp} {δ : Env} {σ : L2.St} (R : Rl G H0 H δ σ) : ∀ {os : List Opd} {vs : List V} {ds : List D}, OpdAll G H0 σ os vs → rdAll δ os = some ds → RelTAll G.K H0 H vs ds
  | _, _, _, .nil, e => by
    cases e
    exact .nil
  | _, _, _, .cons h t, e => by
    simp only [IP.rdAll, Option.bind_eq_some_iff, Option.map_eq_some_iff] at e
    obtain ⟨d, e1, es, e2, rfl⟩ := e
    exact .cons (R.rd h e1) (Rl.rdAll R t e2)
def BiS (K : PySem.W.Frag) (r : List V → Hp → VK → Prop) (b : List D → Option Res) : Prop :=
  ∀ (G : Gx) (H0 H : Hp) (δ : Env) (σ : L2.St) (vs : List V) (ds : List D) (res : Res), G.K = K → Rl G H0 H δ σ → RelTAll G.K H0 H vs ds → b ds = some res →
    ∀ Q : VK, (∀ v H0' H', Rl G H0' H' δ σ → Sub H0 H0' → ResOk G H0' H' δ σ res v → Q v H') → r vs H Q
theorem bi_read {r : List V → Hp → VK → Prop} {b : List D → Option Res} {A : Ea} (hs : BiS K r b) {σ : L2.St} {H : Hp} {Q : VK} (h : kE K (vBi b A) σ H Q) : tCB r (kA K A) σ H Q := by
  obtain ⟨G, H0, δ, res, δ', eK, R, e, q⟩ := h
  simp only [vBi, Option.bind_eq_some_iff, Option.map_eq_some_iff] at e
  obtain ⟨⟨os, δ1⟩, e1, ds, e2, r', e3, e4⟩ := e
  cases e4
  refine ⟨G, H0, δ, os, δ1, eK, R, e1, fun vs H0' H' R1 s1 k1 => ?_⟩
  exact hs G H0' H' δ1 σ vs ds _ eK R1 (R1.rdAll k1 e2) e3 Q fun z C D R3 s3 k3 => q z C D R3 (s1.trans s3) k3
theorem x_biB {id : String} {r : List V → Hp → VK → Prop} {bb : List D → Option Res} {A : Ea} {x : Str} {p : Pos} {es : List Expr} (hc : CallR X (.builtin id) r) (hs : BiS X.K r bb) (hg : Gl X x) (hm : X.mg x = none) (hv : bootBuiltins x = some (.builtin id)) (ha : XA X (a :: es) A)
    (hn : x ≠ "__name__" := by decide) (hdb : (x == ("__debug__" : Str)) = false := by decide) (h1 : starEach (a :: es) X.env = (false, eval a X.env) :: starEach es X.env := by rfl) (h2 : (backTo pos (starEach es X.env)).any (·.1) = false := by rfl) : XV X (.Call (.Name x p) (a :: es) [] pos) (vBi bb A) :=
  (pe_callB hc hg hm hv ha hn hdb h1 h2).weak fun _ _ _ h => bi_read hs h
theorem x_biT {id : String} {r : List V → Hp → VK → Prop} {bb : List D → Option Res} {A : Ea} {x : Str} {p : Pos} {es : List Expr} (hc : CallR X (.type id) r) (hs : BiS X.K r bb) (hg : Gl X x) (hm : X.mg x = none) (hv : bootBuiltins x = some (.type id)) (ha : XA X (a :: es) A)
    (hn : x ≠ "__name__" := by decide) (hdb : (x == ("__debug__" : Str)) = false := by decide) (h1 : starEach (a :: es) X.env = (false, eval a X.env) :: starEach es X.env := by rfl) (h2 : (backTo pos (starEach es X.env)).any (·.1) = false := by rfl) : XV X (.Call (.Name x p) (a :: es) [] pos) (vBi bb A) :=
  (pe_callTy hc hg hm hv ha hn hdb h1 h2).weak fun _ _ _ h => bi_read hs h
end
end IP
end
section
set_option Elab.async false
set_option linter.all false
set_option maxRecDepth 100000
set_option maxHeartbeats 2000000
namespace IP
open PySem L2
/-! ### calls of the text's own functions -/
def RetOk (K : PySem.W.Frag) (H H0' H' : Hp) : Res → V → Prop
  | .dat d, v => Rel K H0' v d
  | .new ds, v => ∃ q vs, v = .ref q ∧ H' q = some (.lst vs) ∧ RelAll K H0' vs ds ∧ H0' q = none ∧ H q = none
  | .newD t kvs, v => ∃ q, v = .ref q ∧ DAt K H0' H' q t kvs ∧ H0' q = none ∧ H q = none
def Fro (H0 H H0' : Hp) : Prop := ∀ a o, H0' a = some o → (∃ u, H0 a = some u) ∨ H a = none
/-- what a function promises -/
def spI (K : PySem.W.Frag) (c : Fnc) : Sp := fun vs H Q _ => ∃ (H0 : Hp) (ds : List D) (r : Res), Sub H0 H ∧
  ((RelAll K H0 vs ds ∧ c none ds = some (r, none) ∧ ∀ v H0' H', Sub H0 H0' → Sub H0' H' → Sub H H' → Fro H0 H H0' → RetOk K H H0' H' r v → Q v H') ∨
   (∃ p xs xds yds ws, vs = .ref p :: ws ∧ RelAll K H0 ws ds ∧ H p = some (.lst xs) ∧ RelAll K H0 xs xds ∧ H0 p = none ∧ c (some xds) ds = some (r, some yds) ∧
     ∀ v H0' H' ys, Sub H0 H0' → Sub H0' H' → (∀ a o, H a = some o → a ≠ p → H' a = some o) → Fro H0 H H0' → H' p = some (.lst ys) → RelAll K H0' ys yds → H0' p = none → RetOk K H H0' H' r v → Q v H'))
section
variable {K : PySem.W.Frag} {A B : Hp}
/-- values without lists do not read lists -/
theorem Rel.noList : ∀ {v : V} {d : D}, Rel K A v d → noList d = true → (∀ a o, A a = some o → (∀ xs, o ≠ .lst xs) → B a = some o) → Rel K B v d := by
  intro v d r
  refine Rel.rec (motive_1 := fun v d _ => IP.noList d = true → (∀ a o, A a = some o → (∀ xs, o ≠ .lst xs) → B a = some o) → Rel K B v d) (motive_2 := fun _ _ _ => True) (motive_3 := fun _ _ _ => True) (motive_4 := fun vs ds _ => noListAll ds = true → (∀ a o, A a = some o → (∀ xs, o ≠ .lst xs) → B a = some o) → RelAll K B vs ds) ?_ ?_ ?_ ?_ ?_ ?_ ?_ ?_ ?_ ?_ ?_ ?_ ?_ ?_ ?_ ?_ r
  · intro _ _; exact .non
  · intro b _ _; exact .bl b
  · intro i _ _; exact .int i
  · intro x _ _; exact .str x
  · intro a xs ds e r ih c _
    simp [IP.noList] at c
  · intro a xs ds e r ih c k
    exact .tup (k _ _ e fun xs z => nomatch z) (ih (by simpa [IP.noList] using c) k)
  · intro a ns e c
    simp [IP.scr, IP.noList] at c
  · intro a ks kvs e r ih c
    simp [IP.noList] at c
  · intro a ks kvs e r ih c
    simp [IP.noList] at c
  · intros
    rename_i c _
    simp [clo, IP.noList] at c
  · trivial
  · intros
    trivial
  · trivial
  · intros
    trivial
  · intro _ _; exact .nil
  · intro v vs d ds r1 r2 h1 h2 c k
    have c' : IP.noList d = true ∧ noListAll ds = true := by simpa [noListAll] using c
    exact .cons (h1 c'.1 k) (h2 c'.2 k)
theorem RelAll.noList : ∀ {vs : List V} {ds : List D}, RelAll K A vs ds → noListAll ds = true → (∀ a o, A a = some o → (∀ xs, o ≠ .lst xs) → B a = some o) → RelAll K B vs ds
  | _, _, .nil, _, _ => .nil
  | _, _, .cons r t, c, k => by
    have c' := by simpa [noListAll] using c
    exact .cons (r.noList c'.1 k) (RelAll.noList t c'.2 k)
end
section
variable {G : Gx} {H0 H H0' H' : Hp} {δ δ' : Env} {σ : L2.St}
/-- the heap has grown, the owned lists stand -/
theorem Rl.grow (R : Rl G H0 H δ σ) (hH : Sub H H') (h0 : Sub H0 H0') (hs : Sub H0' H') (hf : Fro H0 H H0') : Rl G H0' H' δ σ := by
  have nf : ∀ p u, H p = some u → H0 p = none → H0' p = none := fun p u e n => by
    cases q : H0' p with
    | none => rfl
    | some o =>
      rcases hf p o q with ⟨u', e'⟩ | e'
      · rw [n] at e'
        cases e'
      · rw [e] at e'
        cases e'
  refine ⟨R.len, hs, R.up.trans h0, fun a o e h h' => hH a o (R.keep a o e h h'), fun a o e => ?_, fun i s e => ?_, fun i j a h1 h2 => R.inj i j a (R.holdsOf (keep_sub hH) h1) (R.holdsOf (keep_sub hH) h2), R.prs, R.qrsOf (keep_sub hH), tabs_te (tabs_fro R.tabs fun a o e => (hf a o e).imp id .inl) fun a o e _ => hH a o e⟩
  · rcases hf a o e with ⟨u, h⟩ | h
    · exact R.fro a u h
    · exact .inr (R.fresh h).2.1
  · refine (R.slot i s e).mono h0 (fun a o e _ _ => hH a o e) (fun a h1 h2 hn => ?_)
    obtain ⟨⟨o, eo⟩, _⟩ := R.held ⟨s, e, h1, h2⟩
    exact nf a o eo hn
theorem ResOk.of {r : Res} {v : V} (R : Rl G H0 H δ σ) (hH : Sub H H') (h : RetOk G.K H H0' H' r v) : ResOk G H0' H' δ σ r v := by
  cases r with
  | dat d => exact h
  | new ds =>
    obtain ⟨q, vs, e1, e2, e3, e4, e5⟩ := h
    have f := R.fresh e5
    exact ⟨q, vs, e1, e2, e3, e4, f.2.1, fun i h => f.2.2 i (R.holdsOf (keep_sub hH) h)⟩
  | newD t kvs =>
    obtain ⟨q, e1, e2, e4, e5⟩ := h
    have f := R.fresh e5
    exact ⟨q, e1, e2, e4, f.2.1, fun i h => f.2.2 i (R.holdsOf (keep_sub hH) h)⟩
theorem OpdAll.vals0 : ∀ {os : List Opd} {vs : List V} {ds : List D}, OpdAll G H0 σ os vs → anyAt os = false → rdAll δ os = some ds → RelAll G.K H0 vs ds
  | _, _, _, .nil, _, e => by
    cases e
    exact .nil
  | _, _, _, .cons (o := o) h t, n, e => by
    cases o with
    | val d =>
      simp only [IP.rdAll, IP.rd, Option.bind_eq_some_iff, Option.map_eq_some_iff, Option.some.injEq] at e
      obtain ⟨d', rfl, es, e2, rfl⟩ := e
      exact .cons h (OpdAll.vals0 t n e2)
    | «at» i => cases n
end
section
variable {X : Cx} {K : PySem.W.Frag} {c : Fnc} {A : Ea}
open Classical in
theorem call_read {σ : L2.St} {H : Hp} {Q : VK} {E : XK} (h : kE K (vCall c A) σ H Q) : tCall (spI K c) [] E (kA K A) σ H Q := by
  obtain ⟨G, H0, δ, res, δ', eK, R, e, q⟩ := h
  subst eK
  simp only [vCall, Option.bind_eq_some_iff] at e
  obtain ⟨⟨os, δ1⟩, e1, ds, e2, ⟨r, out⟩, e3, e4⟩ := e
  cases out with
  | some _ => cases e4
  | none =>
    refine ⟨G, H0, δ, os, δ1, rfl, R, e1, fun vs A' H' R1 s1 k1 => ?_⟩
    show spI G.K c (vs ++ []) H' Q E
    rw [List.append_nil]
    by_cases hat : anyAt os = false
    · dsimp only at e4
      rw [if_pos hat] at e4
      cases e4
      refine ⟨A', ds, _, R1.sub, .inl ⟨k1.vals0 hat e2, e3, fun v B H'' h1 h2 h3 h4 h5 => ?_⟩⟩
      exact q v B H'' (R1.grow h3 h1 h2 h4) (s1.trans h1) (ResOk.of R1 h3 h5)
    · dsimp only at e4
      rw [if_neg hat] at e4
      -- the owned lists are lent
      let L : Addr → Prop := fun a => ∃ (i : Nat) (ds : List D), (δ1[i]? = some (Slot.own ds) ∨ δ1[i]? = some (Slot.prm ds)) ∧ σ[i]? = some (some (V.ref a))
      let AC : Hp := fun a => if L a then H' a else A' a
      have nL : ∀ a, L a → A' a = none := fun a ⟨i, ds, x1, x3⟩ => by
        rcases x1 with x1 | x1
        · exact (R1.held (Holds.of x1 rfl x3)).2.1
        · exact (R1.held (Holds.of x1 rfl x3)).2.1
      have lL : ∀ a, L a → ∃ xs, H' a = some (.lst xs) := fun a ⟨i, ds, x1, x3⟩ => by
        rcases x1 with x1 | x1
        · obtain ⟨p, ws, y1, y2, y3, y4, y5⟩ := R1.slot i _ x1
          rw [x3] at y1
          cases y1
          exact ⟨_, y2⟩
        · obtain ⟨p, ws, y1, y0, y2, y3, y4⟩ := R1.slot i _ x1
          rw [x3] at y1
          cases y1
          exact ⟨_, y2⟩
      have subA : Sub A' AC := fun a o e => by
        show (if L a then H' a else A' a) = some o
        by_cases ha : L a
        · rw [nL a ha] at e
          cases e
        · rw [if_neg ha]
          exact e
      have subH : Sub AC H' := fun a o e => by
        have e' : (if L a then H' a else A' a) = some o := e
        by_cases ha : L a
        · rw [if_pos ha] at e'
          exact e'
        · rw [if_neg ha] at e'
          exact R1.sub a o e'
      have rel : ∀ {os : List Opd} {vs : List V} {ds : List D}, OpdAll G A' σ os vs → rdAll δ1 os = some ds → RelAll G.K AC vs ds := by
        intro os vs ds h
        induction h generalizing ds with
        | nil =>
          intro e
          cases e
          exact .nil
        | cons h t ih =>
          intro e
          rename_i o os v vs
          simp only [IP.rdAll, Option.bind_eq_some_iff, Option.map_eq_some_iff] at e
          obtain ⟨d, x1, es, x2, rfl⟩ := e
          refine .cons ?_ (ih x2)
          cases o with
          | val d' =>
            simp only [IP.rd, Option.some.injEq] at x1
            subst x1
            exact Rel.sub subA h
          | «at» i =>
            simp only [IP.rd, Option.bind_eq_some_iff] at x1
            obtain ⟨s, y1, y2⟩ := x1
            have h' : σ[i]? = some (some v) := h
            have sj := R1.slot i s y1
            cases s with
            | un => cases y2
            | dat d' =>
              simp only [slotD, Option.some.injEq] at y2
              subst y2
              obtain ⟨w, z1, z2⟩ := sj
              rw [h'] at z1
              cases z1
              exact z2.sub subA
            | own ds =>
              simp only [slotD, Option.some.injEq] at y2
              subst y2
              obtain ⟨p, ws, z1, z2, z3, z4, z5⟩ := sj
              rw [h'] at z1
              cases z1
              refine .lst ?_ (z3.sub subA)
              show (if L p then H' p else A' p) = _
              rw [if_pos ⟨i, _, .inl y1, h'⟩]
              exact z2
            | obj _ => cases y2
            | pob _ => cases y2
            | tb _ => cases y2
            | exc _ => cases y2
            | dct _ _ => cases y2
            | prm ds =>
              simp only [slotD, Option.some.injEq] at y2
              subst y2
              obtain ⟨p, ws, z1, z0, z2, z3, z4⟩ := sj
              rw [h'] at z1
              cases z1
              refine .lst ?_ (z3.sub subA)
              show (if L p then H' p else A' p) = _
              rw [if_pos ⟨i, _, .inr y1, h'⟩]
              exact z2
      refine ⟨AC, ds, r, subH, .inl ⟨rel k1 e2, e3, fun v B H'' h1 h2 h3 h4 h5 => ?_⟩⟩
      let B0 : Hp := fun a => if L a then none else B a
      have b1 : Sub A' B0 := fun a o e => by
        show (if L a then none else B a) = some o
        by_cases ha : L a
        · rw [nL a ha] at e
          cases e
        · rw [if_neg ha]
          exact h1 a o (subA a o e)
      have b2 : Sub B0 H'' := fun a o e => by
        have e' : (if L a then none else B a) = some o := e
        by_cases ha : L a
        · rw [if_pos ha] at e'
          cases e'
        · rw [if_neg ha] at e'
          exact h2 a o e'
      have b3 : Fro A' H' B0 := fun a o e => by
        have e' : (if L a then none else B a) = some o := e
        by_cases ha : L a
        · rw [if_pos ha] at e'
          cases e'
        · rw [if_neg ha] at e'
          rcases h4 a o e' with ⟨u, hu⟩ | hu
          · have hu' : (if L a then H' a else A' a) = some u := hu
            rw [if_neg ha] at hu'
            exact .inl ⟨u, hu'⟩
          · exact .inr hu
      have b4 : ∀ a o, B a = some o → (∀ xs, o ≠ .lst xs) → B0 a = some o := fun a o e n => by
        show (if L a then none else B a) = some o
        by_cases ha : L a
        · obtain ⟨xs, hx⟩ := lL a ha
          have : AC a = some (.lst xs) := by
            show (if L a then H' a else A' a) = _
            rw [if_pos ha]
            exact hx
          rw [h1 a _ this] at e
          cases e
          exact absurd rfl (n xs)
        · rw [if_neg ha]
          exact e
      have b5 : Rl G B0 H'' δ1 σ := R1.grow h3 b1 b2 b3
      cases r with
      | dat d =>
        simp only at e4
        split at e4
        · rename_i hn
          cases e4
          exact q v B0 H'' b5 (s1.trans b1) (Rel.noList h5 hn b4)
        · cases e4
      | new es =>
        simp only at e4
        split at e4
        · rename_i hn
          cases e4
          obtain ⟨z, ws, x1, x2, x3, x4, x5⟩ := h5
          have f := R1.fresh x5
          refine q v B0 H'' b5 (s1.trans b1) ⟨z, ws, x1, x2, x3.noList hn b4, ?_, f.2.1, fun i h => f.2.2 i (R1.holdsOf (keep_sub h3) h)⟩
          show (if L z then none else B z) = none
          by_cases hz : L z
          · rw [if_pos hz]
          · rw [if_neg hz]
            exact x4
        · cases e4
      | newD t kvs => cases e4
theorem callR_read {σ : L2.St} {H : Hp} {Q : VK} {E : XK} {i : Nat} (h : kE K (vCallR c i A) σ H Q) : tCall (spI K c) [] E (tCons (tVar i) (kA K A)) σ H Q := by
  obtain ⟨G, H0, δ, res, δ', eK, R, e, q⟩ := h
  subst eK
  simp only [vCallR, Option.bind_eq_some_iff] at e
  obtain ⟨⟨os, δ1⟩, e1, ds, e2, e3⟩ := e
  split at e1
  · rename_i ho
    have hv : ∃ p, σ[i]? = some (some (.ref p)) := by
      unfold ownAt at ho
      cases es : δ[i]? with
      | none =>
        rw [es] at ho
        cases ho
      | some s =>
        rw [es] at ho
        have sj := R.slot i s es
        cases s with
        | own ds =>
          obtain ⟨p, vs, h1, _⟩ := sj
          exact ⟨p, h1⟩
        | prm ds =>
          obtain ⟨p, vs, h1, _⟩ := sj
          exact ⟨p, h1⟩
        | _ => cases ho
    obtain ⟨p, hp⟩ := hv
    refine ⟨.ref p, hp, G, H0, δ, os, δ1, rfl, R, e1, fun vs A' H' R1 s1 k1 => ?_⟩
    show spI G.K c (.ref p :: vs ++ []) H' Q E
    rw [List.append_nil]
    have ra := k1.vals e2
    have key : ∀ (s s' : Slot) (xs : List D) (r : Res) (ys : List D), δ1[i]? = some s → isOwn s = true → c (some xs) ds = some (r, some ys) → (∃ vs, H' p = some (.lst vs) ∧ RelAll G.K A' vs xs ∧ A' p = none) → ((s' = .own ys ∧ ∃ xs, s = .own xs) ∨ (s' = .prm ys ∧ ∃ xs, s = .prm xs)) →
        res = r → δ' = δ1.set i s' → spI G.K c (.ref p :: vs) H' Q E := by
      rintro s s' xs r ys x1 x2 x3 ⟨ws, x4, x5, x6⟩ x7 rfl rfl
      refine ⟨A', ds, res, R1.sub, .inr ⟨p, ws, xs, ys, vs, rfl, ra, x4, x5, x6, x3, fun v B H'' zs h1 h2 h3 h4 h5 h6 h7 h8 => ?_⟩⟩
      have hB : Sub B (upd H'' p (.lst ws)) := fun a o e => by
        rw [upd_ne (ne_of_none e h7)]
        exact h2 a o e
      have hH : Sub H' (upd H'' p (.lst ws)) := fun a o e => by
        by_cases ha : a = p
        · subst ha
          rw [upd_same, ← e, x4]
        · rw [upd_ne ha]
          exact h3 a o e ha
      have R2 : Rl G B (upd H'' p (.lst ws)) δ1 σ := R1.grow hH h1 hB h4
      have R3 := R2.put (p := p) x1 x2 hp h6 x7
      rw [upd_upd] at R3
      have e5 : upd H'' p (.lst zs) = H'' := by
        funext a
        by_cases ha : a = p
        · subst ha
          rw [upd_same, h5]
        · rw [upd_ne ha]
      rw [e5] at R3
      refine q v B H'' R3 (s1.trans h1) ?_
      cases res with
      | dat d => exact h8
      | new es =>
        obtain ⟨z, us, y1, y2, y3, y4, y5⟩ := h8
        have f := R1.fresh y5
        refine ⟨z, us, y1, y2, y3, y4, f.2.1, fun j hj => ?_⟩
        obtain ⟨u, u1, u2, u3⟩ := hj
        by_cases hij : i = j
        · subst hij
          obtain ⟨pz, w1, w2⟩ := u3
          rw [hp] at w1
          cases w1
          rcases w2 with w2 | ⟨w2, _⟩
          · rw [w2, x4] at y5
            cases y5
          · rw [List.getElem?_set_self (List.getElem?_eq_some_iff.mp x1).1] at u1
            cases u1
            rcases x7 with ⟨rfl, _⟩ | ⟨rfl, _⟩ <;> cases w2
        · rw [List.getElem?_set_ne hij] at u1
          refine f.2.2 j (R1.holdsOf (fun a o e n => ?_) ⟨u, u1, u2, u3⟩)
          have ha : a ≠ p := fun z => by
            rw [z, x4] at e
            cases e
            exact n _ rfl
          exact h3 a o e ha
      | newD t kvs =>
        obtain ⟨z, y1, y2, y4, y5⟩ := h8
        have f := R1.fresh y5
        refine ⟨z, y1, y2, y4, f.2.1, fun j hj => ?_⟩
        obtain ⟨u, u1, u2, u3⟩ := hj
        by_cases hij : i = j
        · subst hij
          obtain ⟨pz, w1, w2⟩ := u3
          rw [hp] at w1
          cases w1
          rcases w2 with w2 | ⟨w2, _⟩
          · rw [w2, x4] at y5
            cases y5
          · rw [List.getElem?_set_self (List.getElem?_eq_some_iff.mp x1).1] at u1
            cases u1
            rcases x7 with ⟨rfl, _⟩ | ⟨rfl, _⟩ <;> cases w2
        · rw [List.getElem?_set_ne hij] at u1
          refine f.2.2 j (R1.holdsOf (fun a o e n => ?_) ⟨u, u1, u2, u3⟩)
          have ha : a ≠ p := fun z => by
            rw [z, x4] at e
            cases e
            exact n _ rfl
          exact h3 a o e ha
    dsimp only at e3
    cases es : δ1[i]? with
    | none =>
      rw [es] at e3
      cases e3
    | some s =>
      rw [es] at e3
      have sj := R1.slot i s es
      cases s with
      | own xs =>
        simp only [Option.bind_eq_some_iff] at e3
        obtain ⟨⟨r, out⟩, e4, e5⟩ := e3
        cases out with
        | none => cases e5
        | some ys =>
          cases e5
          obtain ⟨p', ws, y1, y2, y3, y4, y5⟩ := sj
          rw [hp] at y1
          cases y1
          exact key _ _ xs _ ys es rfl e4 ⟨ws, y2, y3, y4⟩ (.inl ⟨rfl, xs, rfl⟩) rfl rfl
      | prm xs =>
        simp only [Option.bind_eq_some_iff] at e3
        obtain ⟨⟨r, out⟩, e4, e5⟩ := e3
        cases out with
        | none => cases e5
        | some ys =>
          cases e5
          obtain ⟨p', ws, y1, y0, y2, y3, y4⟩ := sj
          rw [hp] at y1
          cases y1
          exact key _ _ xs _ ys es rfl e4 ⟨ws, y2, y3, y4⟩ (.inr ⟨rfl, xs, rfl⟩) rfl rfl
      | _ => cases e3
  · cases e1
variable {CX : CXT} {k : Nat} {fa : Addr} {fd : FuncData} {ps : List Str} {E : XK} {x : Str} {p pos : Pos} {e : Expr} {es : List Expr}
/-- f(e, ..) -/
theorem x_call (F : FnOk X.prog X.w X.K X.mg X.base CX k fa fd ps (spI X.K c)) (hr : Room k X.A) (hg : Gl X x) (hm : X.mg x = some (.ref fa)) (hk : PySem.W.keepIn X.K (.ref fa) = true) (hb : Binds X.K fd ps []) (hx : Passes CX X E)
    (ha : XA X (e :: es) A) (hdb : (x == ("__debug__" : Str)) = false := by decide) (he : starEach (e :: es) X.env = (false, eval e X.env) :: starEach es X.env := by rfl) (hpl : (backTo pos (starEach es X.env)).any (·.1) = false := by rfl) :
    XV X (.Call (.Name x p) (e :: es) [] pos) (vCall c A) := (pe_call F hr hg hm hk hb .nil hx ha hdb he hpl).weak fun _ _ _ h => call_read h
/-- f(), a def without parameters -/
theorem x_call0 (F : FnOk X.prog X.w X.K X.mg X.base CX k fa fd ps (spI X.K c)) (hr : Room k X.A) (hg : Gl X x) (hm : X.mg x = some (.ref fa)) (hk : PySem.W.keepIn X.K (.ref fa) = true) (hb : Binds X.K fd ps []) (hx : Passes CX X E)
    (hdb : (x == ("__debug__" : Str)) = false := by decide) : XV X (.Call (.Name x p) [] [] pos) (vCall c aNil) := (pe_call0 F hr hg hm hk hb .nil hx hdb).weak fun σ H Q h => by
  obtain ⟨G, H0, δ, os, δ', eK, R, e, q⟩ := call_read (E := E) h
  cases e
  exact q [] H0 H R (Sub.refl _) .nil
/-- f(row, e, ..), the list row by reference -/
theorem x_callR {i : Nat} {y : Str} {py : Pos} (F : FnOk X.prog X.w X.K X.mg X.base CX k fa fd ps (spI X.K c)) (hr : Room k X.A) (hg : Gl X x) (hm : X.mg x = some (.ref fa)) (hk : PySem.W.keepIn X.K (.ref fa) = true) (hb : Binds X.K fd ps []) (hx : Passes CX X E)
    (hv : PE X (.Name y py) (tVar i)) (ha : XA X es A) (hs : starEach (.Name y py :: es) X.env = (false, eval (.Name y py) X.env) :: starEach es X.env := by rfl) (hdb : (x == ("__debug__" : Str)) = false := by decide) (hpl : (backTo pos (starEach es X.env)).any (·.1) = false := by rfl) :
    XV X (.Call (.Name x p) (.Name y py :: es) [] pos) (vCallR c i A) := (pe_call F hr hg hm hk hb .nil hx (pa_cons hv ha hs) hdb hs hpl).weak fun _ _ _ h => callR_read h
end
end IP
end
section
set_option Elab.async false
set_option linter.all false
set_option maxRecDepth 100000
set_option maxHeartbeats 2000000
namespace IP
open PySem L2
/-! ### targets -/
def GS (K : PySem.W.Frag) (g : TG) (t : Tg) : Prop := ∀ (G : Gx) (A H : Hp) (δ δ' : Env) (σ : L2.St) (v : V) (d : D), G.K = K → Rl G A H δ σ → Rel G.K A v d → t.put d δ = some δ' →
  ∀ Q : L2.St → Hp → Prop, (∀ σ', Rl G A H δ' σ' → (∀ vs, (∀ i ∈ t.slots, i ∈ vs) → wipe σ' vs = wipe σ vs) → Q σ' H) → g v σ H Q
theorem wipe_set {σ : L2.St} {i : Nat} {x : Option V} : ∀ {vs : List Nat}, i ∈ vs → wipe (σ.set i x) vs = wipe σ vs
  | [], h => by simp at h
  | v :: vs, h => by
    unfold wipe
    by_cases hv : i ∈ vs
    · rw [wipe_set hv]
    · have e : i = v := by
        rcases List.mem_cons.mp h with e | e
        · exact e
        · exact absurd e hv
      subst e
      have comm : ∀ ws : List Nat, i ∉ ws → wipe (σ.set i x) ws = (wipe σ ws).set i x := by
        intro ws
        induction ws with
        | nil => intro _; rfl
        | cons w ws ih =>
          intro hn
          simp only [List.mem_cons, not_or] at hn
          unfold wipe
          rw [ih hn.2, List.set_comm _ _ hn.1]
      rw [comm vs hv, List.set_set]
section
variable {K : PySem.W.Frag}
theorem gs_nm {i : Nat} : GS K (gName i) (.nm i) := by
  intro G A H δ δ' σ v d eK R r e Q q
  refine q _ (Rl.set R e ?_ rfl (fun z => Bool.noConfusion z)) fun vs h => wipe_set (h i (by simp [Tg.slots]))
  have hlt : i < σ.length := by
    rw [R.len]
    have e' : setSlot δ i (.dat d) = some δ' := e
    unfold setSlot at e'
    cases es : δ[i]? with
    | none =>
      rw [es] at e'
      cases e'
    | some s => exact (List.getElem?_eq_some_iff.mp es).1
  exact ⟨v, List.getElem?_set_self hlt, r⟩
inductive GSs (K : PySem.W.Frag) : TGs → List Nat → Prop
  | nil : GSs K gNil []
  | cons {t : TGs} {i : Nat} {is : List Nat} : GSs K t is → GSs K (gCons (gName i) t) (i :: is)
theorem gs_tup {n : Nat} {t : TGs} {is : List Nat} (hn : n = is.length) (h : GSs K t is) : GS K (gTup K n t) (.tup is) := by
  intro G A H δ δ' σ v d eK R r e Q q
  cases d with
  | tuple ds =>
    cases r with
    | tup h1 h2 =>
      rename_i p xs
      have e' : setDs δ is ds = some δ' := e
      have hlen : ∀ {δ : Env} {is : List Nat} {ds : List D}, setDs δ is ds = some δ' → is.length = ds.length := by
        intro δ is
        induction is generalizing δ with
        | nil =>
          intro ds e
          cases ds with
          | nil => rfl
          | cons _ _ => cases e
        | cons i is ih =>
          intro ds e
          cases ds with
          | nil => cases e
          | cons d ds =>
            simp only [setDs, Option.bind_eq_some_iff] at e
            obtain ⟨δ1, _, e2⟩ := e
            rw [List.length_cons, List.length_cons, ih e2]
      refine ⟨p, xs, rfl, by rw [← eK]; exact SqT.of (R.sub _ _ h1), by rw [h2.length, hn, hlen e'], ?_⟩
      have go : ∀ (t : TGs) (is : List Nat), GSs K t is → ∀ (δ : Env) (σ : L2.St) (xs : List V) (ds : List D), Rl G A H δ σ → RelAll G.K A xs ds → setDs δ is ds = some δ' →
          ∀ Q : L2.St → Hp → Prop, (∀ σ', Rl G A H δ' σ' → (∀ vs, (∀ i ∈ is, i ∈ vs) → wipe σ' vs = wipe σ vs) → Q σ' H) → t xs σ H Q := by
        intro t is h
        induction h with
        | nil =>
          intro δ σ xs ds R r e Q q
          cases ds with
          | nil =>
            cases r
            cases e
            exact ⟨rfl, q σ R fun vs _ => rfl⟩
          | cons _ _ => cases e
        | cons h ih =>
          rename_i t i is
          intro δ σ xs ds R r e Q q
          cases ds with
          | nil => cases e
          | cons d ds =>
            cases r with
            | cons r1 r2 =>
              simp only [setDs, Option.bind_eq_some_iff] at e
              obtain ⟨δ1, e1, e2⟩ := e
              refine ⟨_, _, rfl, ?_⟩
              refine gs_nm (K := K) G A H δ δ1 σ _ d eK R r1 e1 _ fun σ1 R1 w1 => ?_
              exact ih δ1 σ1 _ ds R1 r2 e2 Q fun σ2 R2 w2 => q σ2 R2 fun vs hv => (w2 vs fun j hj => hv j (List.mem_cons_of_mem _ hj)).trans (w1 vs fun j hj => hv j (by
                have : j = i := by simpa [Tg.slots] using hj
                rw [this]
                exact List.mem_cons_self))
      exact go t is h δ σ xs ds R h2 e' Q q
  | _ => cases e
end

theorem Fro.refl {A H : Hp} : Fro A H A := fun a o e => .inl ⟨o, e⟩
/-! ### what is walked -/
structure IW (G : Gx) (H0 : Hp) (σ : L2.St) (J : It) (xs : List D) (ow : Option Nat) : Prop where
  goes : ∀ i A H δ τ, Rl G A H δ τ → Sub H0 A → (∀ k, ow = some k → τ[k]? = σ[k]?) → still δ xs ow = true → i < xs.length → J.go i H
  stops : ∀ A H δ τ, Rl G A H δ τ → Sub H0 A → (∀ k, ow = some k → τ[k]? = σ[k]?) → still δ xs ow = true → J.stop xs.length H
  yields : ∀ i A H δ τ x H', Rl G A H δ τ → Sub H0 A → (∀ k, ow = some k → τ[k]? = σ[k]?) → still δ xs ow = true → i < xs.length → J.yld i H x H' →
    ∃ B d, Rl G B H' δ τ ∧ Sub A B ∧ Sub H H' ∧ Fro A H B ∧ xs[i]? = some d ∧ Rel G.K B x d
def kI (K : PySem.W.Frag) (f : Ei) : TI := fun σ H R => ∃ G H0 δ xs ow δ', G.K = K ∧ Rl G H0 H δ σ ∧ f δ = some ((xs, ow), δ') ∧
  ∀ J H0' H', Rl G H0' H' δ' σ → Sub H0 H0' → IW G H0' σ J xs ow → R J H'
abbrev XI (X : Cx) (tg e : Expr) (f : Ei) : Prop := PI X tg e (kI X.K f)
section
variable {X : Cx} {K : PySem.W.Frag}
theorem _root_.L2.PI.weak {tg e : Expr} {t t' : TI} (h : PI X tg e t) (w : ∀ σ H R, t' σ H R → t σ H R) : PI X tg e t' := ⟨fun pins s σ H R I q => h.run pins s σ H R I (w σ H R q)⟩
theorem PI.or_ {tg e : Expr} {t t' : TI} {s : TI} (h : PI X tg e t) (h' : PI X tg e t') (w : ∀ σ H R, s σ H R → t σ H R ∨ t' σ H R) : PI X tg e s := ⟨fun pins st σ H R I q => by
  rcases w σ H R q with q | q
  · exact h.run pins st σ H R I q
  · exact h'.run pins st σ H R I q⟩
mutual
theorem same_eq : ∀ {a b : D}, same a b = true → a = b
  | .none, b, h => by cases b <;> simp_all [same]
  | .bool _, b, h => by cases b <;> simp_all [same]
  | .int _, b, h => by cases b <;> simp_all [same]
  | .str _, b, h => by cases b <;> simp_all [same]
  | .list xs, b, h => by
    cases b with
    | list ys =>
      have e := sameAll_eq (a := xs) (b := ys) (by simpa [same] using h)
      rw [e]
    | _ => simp [same] at h
  | .tuple xs, b, h => by
    cases b with
    | tuple ys =>
      have e := sameAll_eq (a := xs) (b := ys) (by simpa [same] using h)
      rw [e]
    | _ => simp [same] at h
  | .dict _, b, h => by cases b <;> simp [same] at h
theorem sameAll_eq : ∀ {a b : List D}, sameAll a b = true → a = b
  | [], b, h => by cases b <;> simp_all [sameAll]
  | x :: xs, b, h => by
    cases b with
    | nil => simp [sameAll] at h
    | cons y ys =>
      have h' : same x y = true ∧ sameAll xs ys = true := by simpa [sameAll] using h
      rw [same_eq h'.1, sameAll_eq h'.2]
end
/-- a sequence of values that is walked in place, by its address -/
def InPlace (G : Gx) (H0 : Hp) (σ : L2.St) (p : Addr) (xs : List D) (ow : Option Nat) : Prop :=
  match ow with
  | none => Rel G.K H0 (.ref p) (.list xs)
  | some k => σ[k]? = some (some (.ref p))
theorem inplace_at {G : Gx} {H0 A H : Hp} {δ : Env} {σ τ : L2.St} {p : Addr} {xs : List D} {ow : Option Nat} (h : InPlace G H0 σ p xs ow) (R : Rl G A H δ τ) (s : Sub H0 A) (hk : ∀ k, ow = some k → τ[k]? = σ[k]?) (st : still δ xs ow = true) :
    ∃ ys, H p = some (.lst ys) ∧ RelAll G.K A ys xs := by
  cases ow with
  | none =>
    have h' : Rel G.K H0 (.ref p) (.list xs) := h
    cases h' with
    | lst h1 h2 => exact ⟨_, R.sub _ _ (s _ _ h1), h2.sub s⟩
  | some k =>
    have h' : σ[k]? = some (some (.ref p)) := h
    rw [← hk k rfl] at h'
    simp only [still] at st
    cases es : δ[k]? with
    | none =>
      rw [es] at st
      cases st
    | some u =>
      rw [es] at st
      have sj := R.slot k u es
      cases u with
      | un => cases st
      | obj _ => cases st
      | pob _ => cases st
      | tb _ => cases st
      | exc _ => cases st
      | dct _ _ => cases st
      | dat d =>
        obtain ⟨v, e1, r⟩ := sj
        rw [h'] at e1
        cases e1
        cases d with
        | list ys =>
          have e2 := sameAll_eq (a := xs) (b := ys) st
          subst e2
          cases r with
          | lst h1 h2 => exact ⟨_, R.sub _ _ h1, h2⟩
        | _ => cases st
      | own ys =>
        obtain ⟨q, vs, e1, e2, e3, _⟩ := sj
        rw [h'] at e1
        cases e1
        have e4 := sameAll_eq (a := xs) (b := ys) st
        subst e4
        exact ⟨vs, e2, e3⟩
      | prm ys =>
        obtain ⟨q, vs, e1, _, e2, e3, _⟩ := sj
        rw [h'] at e1
        cases e1
        have e4 := sameAll_eq (a := xs) (b := ys) st
        subst e4
        exact ⟨vs, e2, e3⟩
theorem iw_list {G : Gx} {H0 : Hp} {σ : L2.St} {p : Addr} {xs : List D} {ow : Option Nat} (h : InPlace G H0 σ p xs ow) : IW G H0 σ (Itl G.K p) xs ow where
  goes := fun i A H δ τ R s hk st hi => by
    obtain ⟨ys, e1, e2⟩ := inplace_at h R s hk st
    have hl : i < ys.length := by rw [e2.length]; exact hi
    exact ⟨ys, ys[i], SqL.of e1, by simp [hl]⟩
  stops := fun A H δ τ R s hk st => by
    obtain ⟨ys, e1, e2⟩ := inplace_at h R s hk st
    exact ⟨ys, SqL.of e1, Nat.le_of_eq e2.length⟩
  yields := fun i A H δ τ x H' R s hk st hi y => by
    obtain ⟨ys, e1, e2⟩ := inplace_at h R s hk st
    obtain ⟨rfl, y⟩ := y
    obtain ⟨d, h1, h2⟩ := e2.getV (y ys (SqL.of e1))
    exact ⟨A, d, R, Sub.refl _, Sub.refl _, Fro.refl, h1, h2⟩
theorem iw_tup {G : Gx} {H0 : Hp} {σ : L2.St} {p : Addr} {ys : List V} {xs : List D} (h : SqT G.K H0 p ys) (r : RelAll G.K H0 ys xs) {ow : Option Nat} : IW G H0 σ (Itt G.K p) xs ow where
  goes := fun i A H δ τ R s hk st hi => by
    have hl : i < ys.length := by rw [r.length]; exact hi
    exact ⟨ys, ys[i], SqT.sub R.sub (SqT.sub s h), by simp [hl]⟩
  stops := fun A H δ τ R s hk st => ⟨ys, SqT.sub R.sub (SqT.sub s h), Nat.le_of_eq r.length⟩
  yields := fun i A H δ τ x H' R s hk st hi y => by
    obtain ⟨rfl, y⟩ := y
    obtain ⟨d, h1, h2⟩ := r.getV (y ys (SqT.sub R.sub (SqT.sub s h)))
    exact ⟨A, d, R, Sub.refl _, Sub.refl _, Fro.refl, h1, h2.sub s⟩
/-- an operand that is a list, walked in place; a tuple -/
theorem seq_l {G : Gx} {H0 H : Hp} {δ : Env} {σ : L2.St} {o : Opd} {v : V} {xs : List D} (R : Rl G H0 H δ σ) (k : OpdOk G H0 σ o v) (e : rd δ o = some (.list xs)) :
    ∃ p ys, v = .ref p ∧ H p = some (.lst ys) ∧ InPlace G H0 σ p xs (own? o) := by
  rcases R.rd k e with r | ⟨p, ys, ds', ed, ev, e1, e2⟩
  · cases r with
    | lst h1 h2 =>
      rename_i p ys
      refine ⟨p, ys, rfl, R.sub _ _ h1, ?_⟩
      cases o with
      | val d' => exact .lst h1 h2
      | «at» i => exact k
  · cases ed
    subst ev
    refine ⟨p, ys, rfl, e1, ?_⟩
    cases o with
    | val d' =>
      simp only [IP.rd, Option.some.injEq] at e
      subst e
      exact k
    | «at» i => exact k
theorem seq_t {G : Gx} {H0 H : Hp} {δ : Env} {σ : L2.St} {o : Opd} {v : V} {xs : List D} (R : Rl G H0 H δ σ) (k : OpdOk G H0 σ o v) (e : rd δ o = some (.tuple xs)) :
    ∃ p ys, v = .ref p ∧ H0 p = some (.tup ys) ∧ RelAll G.K H0 ys xs := by
  rcases R.rd k e with r | ⟨p, ys, ds', ed, _⟩
  · cases r with
    | tup h1 h2 => exact ⟨_, _, rfl, h1, h2⟩
  · cases ed
variable {tg e e2 : Expr} {f g : Eo} {pos p : Pos}
/-- a list or a tuple -/
theorem xi_seq (he : XO X e f) : XI X tg e (iE f) := PI.or_ (pi_list he) (pi_tup he) fun σ H Rr ⟨G, H0, δ, xs, ow, δ', eK, R, e0, q⟩ => by
  simp only [iE, Option.bind_eq_some_iff, Option.map_eq_some_iff] at e0
  obtain ⟨⟨o, δ1⟩, e1, d, e2, ys, e3, e4⟩ := e0
  cases e4
  cases d with
  | list ds =>
    cases e3
    refine .inl ⟨G, H0, δ, o, δ1, eK, R, e1, fun v H0' H' R1 s1 k1 => ?_⟩
    obtain ⟨a, ys, rfl, h1, h2⟩ := seq_l R1 k1 e2
    exact ⟨a, rfl, ⟨ys, SqL.of h1⟩, by rw [← eK]; exact q _ _ _ R1 s1 (iw_list h2)⟩
  | tuple ds =>
    cases e3
    refine .inr ⟨G, H0, δ, o, δ1, eK, R, e1, fun v H0' H' R1 s1 k1 => ?_⟩
    obtain ⟨a, ys, rfl, h1, h2⟩ := seq_t R1 k1 e2
    exact ⟨a, rfl, ⟨ys, by rw [← eK]; exact SqT.of (R1.sub _ _ h1)⟩, by rw [← eK]; exact q _ _ _ R1 s1 (iw_tup (SqT.of h1) h2)⟩
  | _ => cases e3
theorem rangeD_get {lo : Int} {n i : Nat} (h : i < n) : (rangeD lo n)[i]? = some (.int (lo + (i : Nat))) := by
  unfold rangeD
  simp [h]
theorem rangeD_length (lo : Int) (n : Nat) : (rangeD lo n).length = n := by
  unfold rangeD
  simp
theorem iw_range {G : Gx} {H0 : Hp} {σ : L2.St} {lo : Int} {n : Nat} : IW G H0 σ (Itr lo n) (rangeD lo n) none where
  goes := fun i A H δ τ R s hk st hi => by
    rw [rangeD_length] at hi
    exact hi
  stops := fun A H δ τ R s hk st => by
    rw [rangeD_length]
    exact Nat.le_refl n
  yields := fun i A H δ τ x H' R s hk st hi y => by
    obtain ⟨rfl, rfl⟩ := y
    rw [rangeD_length] at hi
    exact ⟨A, _, R, Sub.refl _, Sub.refl _, Fro.refl, rangeD_get hi, .int _⟩
theorem xi_range1 (hg : Gl X "range") (hm : X.mg "range" = none) (ha : XO X e f) (hs : starEach [e] X.env = (false, eval e X.env) :: starEach [] X.env := by rfl) : XI X tg (.Call (.Name "range" p) [e] [] pos) (iRange1 f) :=
  (pi_range1 hg hm (pa_cons ha pa_nil hs) hs).weak fun σ H Rr ⟨G, H0, δ, xs, ow, δ', eK, R, e0, q⟩ => by
    simp only [iRange1, Option.bind_eq_some_iff] at e0
    obtain ⟨⟨o, δ1⟩, e1, e2⟩ := e0
    refine ⟨G, H0, δ, o, δ1, eK, R, e1, fun v H0' H' R1 s1 k1 => ?_⟩
    cases o with
    | «at» i => cases e2
    | val d =>
      cases d with
      | int j =>
        dsimp only at e2
        split at e2
        · rename_i hj
          cases e2
          cases k1
          exact ⟨j, rfl, hj.1, hj.2, q _ _ _ R1 s1 iw_range⟩
        · cases e2
      | _ => cases e2
theorem xi_range2 (hg : Gl X "range") (hm : X.mg "range" = none) (ha : XO X e f) (hb : XO X e2 g) (hs : starEach [e, e2] X.env = (false, eval e X.env) :: starEach [e2] X.env := by rfl) (hs2 : starEach [e2] X.env = (false, eval e2 X.env) :: starEach [] X.env := by rfl) : XI X tg (.Call (.Name "range" p) [e, e2] [] pos) (iRange2 f g) :=
  (pi_range2 hg hm (pa_cons ha (pa_cons hb pa_nil hs2) hs) (by rw [hs, hs2]; rfl) hs2).weak fun σ H Rr ⟨G, H0, δ, xs, ow, δ', eK, R, e0, q⟩ => by
    simp only [iRange2, Option.bind_eq_some_iff] at e0
    obtain ⟨⟨o, δ1⟩, e1, ⟨o2, δ2⟩, e2, e3⟩ := e0
    refine ⟨G, H0, δ, o, δ1, eK, R, e1, fun v H0' H' R1 s1 k1 => ?_⟩
    refine ⟨G, H0', δ1, o2, δ2, eK, R1, e2, fun w A' B' R2 s2 k2 => ?_⟩
    cases o with
    | «at» i => cases e3
    | val d =>
      cases d with
      | int j =>
        cases o2 with
        | «at» i => cases e3
        | val d =>
          cases d with
          | int l =>
            dsimp only at e3
            split at e3
            · rename_i hj
              cases e3
              cases k1
              cases k2
              exact ⟨j, l, rfl, hj, q _ _ _ R2 (s1.trans s2) iw_range⟩
            · cases e3
          | _ => cases e3
      | _ => cases e3

/-! ### for -/
theorem forGo_drop {g : Tg} {b : Es} {xs : List D} {i : Nat} (h : i < xs.length) : xs.drop i = xs[i] :: xs.drop (i + 1) := List.drop_eq_getElem_cons h
theorem x_for {g : TG} {t : Tg} {b : Es} {body : List Stmt} {it : Ei} (hp : PassesOwn (model X.prog X.w) X.A X.env X.xe) (hc : X.calm = true) (hi : XI X tg e it) (hg : PG X tg g) (gs : GS X.K g t) (hb : XB X body b) (hs : ∀ x, foldedSetIterable e X.env x = pure x := by intro _; rfl) : XS X (.For tg e body [] pos) (sFor it t b) := by
  refine PS.weak (ps_for hp hc hi hg hb hs) fun D σ H ⟨G, H0, δ, o, δ', eK, R, e0, q⟩ => ?_
  simp only [sFor, Option.bind_eq_some_iff] at e0
  obtain ⟨⟨⟨xs, ow⟩, δ1⟩, e1, e2⟩ := e0
  dsimp only at e2
  split at e2
  · rename_i how
    subst how
    refine ⟨G, H0, δ, xs, none, δ1, eK, R, e1, fun J H0' H' R1 s1 iw => ?_⟩
    have st : ∀ δ, still δ xs none = true := fun _ => rfl
    let YY : Nat → Hp → V → Hp → Prop := fun i H x H' => J.yld i H x H'
    let GG : Hp → Prop := fun H => ∃ A δ τ, Rl G A H δ τ ∧ Sub H0' A
    have w : Walk J xs.length GG YY := ⟨fun i H hi ⟨A, δ, τ, R, s⟩ => iw.goes i A H δ τ R s (fun k h => nomatch h) (st _) hi, fun H ⟨A, δ, τ, R, s⟩ => iw.stops A H δ τ R s (fun k h => nomatch h) (st _), fun i H x H' _ _ y => y⟩
    refine for_it w (fun i τ H => (∃ A δ, Rl G A H δ τ ∧ Sub H0' A ∧ forGo t b (xs.drop i) δ = some (o, δ')) ∨ ((∃ A δ, Rl G A H δ τ ∧ Sub H0' A) ∧ False)) (.inl ⟨H0', δ1, R1, Sub.refl _, e2⟩) ?_ ?_ ?_
    · rintro i τ H _ (⟨A, δ, R2, s2, _⟩ | ⟨_, h⟩)
      · exact ⟨A, δ, τ, R2, s2⟩
      · exact h.elim
    · rintro i x τ H H'' hi (⟨A, δ, R2, s2, e3⟩ | ⟨_, h⟩) y
      · obtain ⟨B, d, R3, s3, _, _, e4, r⟩ := iw.yields i A H δ τ x H'' R2 s2 (fun k h => nomatch h) (st _) hi y
        rw [List.drop_eq_getElem_cons hi] at e3
        have ed : xs[i] = d := by
          rw [List.getElem?_eq_getElem hi] at e4
          exact Option.some.inj e4
        rw [ed] at e3
        simp only [forGo, Option.bind_eq_some_iff] at e3
        obtain ⟨δ2, e5, ⟨o2, δ3⟩, e6, e7⟩ := e3
        refine gs G B H'' δ δ2 τ x d eK R3 r e5 _ fun τ2 R4 _ => ?_
        refine ⟨G, B, δ2, o2, δ3, eK, R4, e6, fun τ3 A3 H3 R5 s5 => ?_⟩
        have s6 : Sub H0' A3 := (s2.trans s3).trans s5
        cases o2 with
        | nx => exact .inl ⟨A3, δ3, R5, s6, e7⟩
        | ct => exact .inl ⟨A3, δ3, R5, s6, e7⟩
        | bk =>
          cases e7
          exact q τ3 A3 H3 R5 (s1.trans s6)
        | rt r =>
          cases e7
          exact q τ3 A3 H3 R5 (s1.trans s6)
        | ro r =>
          cases e7
          exact q τ3 A3 H3 R5 (s1.trans s6)
      · exact h.elim
    · rintro τ H (⟨A, δ, R2, s2, e3⟩ | ⟨_, h⟩)
      · rw [List.drop_length] at e3
        cases e3
        exact q τ A H R2 (s1.trans s2)
      · exact h.elim
  · cases e2

/-! ### while -/
theorem x_while {c : Expr} {body : List Stmt} {t : Et} {b : Es} (hp : PassesOwn (model X.prog X.w) X.A X.env X.xe) (hc : XT X c t) (hb : XB X body b) : XS X (.While c body [] pos) (sWhile t b) := by
  refine PS.weak (ps_while hp hc hb) fun D σ H ⟨G, H0, δ, o, δ', eK, R, e0, q⟩ => ?_
  have e0' : whileGo t b turns δ = some (o, δ') := e0
  refine ⟨fun m τ H => ∃ A δ, Rl G A H δ τ ∧ Sub H0 A ∧ whileGo t b m δ = some (o, δ'), ⟨turns, H0, δ, R, Sub.refl _, e0'⟩, ?_⟩
  rintro m τ H ⟨A, δ, R2, s2, e1⟩
  cases m with
  | zero => cases e1
  | succ m =>
    simp only [whileGo, Option.bind_eq_some_iff] at e1
    obtain ⟨⟨k, δ1⟩, e2, e3⟩ := e1
    refine ⟨G, A, δ, k, δ1, eK, R2, e2, fun A1 H1 R3 s3 => ?_⟩
    cases k with
    | false =>
      cases e3
      exact iteF (q τ A1 H1 R3 (s2.trans s3))
    | true =>
      simp only [if_true, Option.bind_eq_some_iff] at e3
      obtain ⟨⟨o2, δ2⟩, e4, e5⟩ := e3
      refine iteT ⟨fun τ H => (∃ A δ, Rl G A H δ τ ∧ Sub H0 A ∧ whileGo t b m δ = some (o, δ')), fun τ H' h => ⟨m, Nat.lt_succ_self m, h⟩, ?_⟩
      refine ⟨G, A1, δ1, o2, δ2, eK, R3, e4, fun τ3 A3 H3 R5 s5 => ?_⟩
      have s6 : Sub H0 A3 := (s2.trans s3).trans s5
      cases o2 with
      | nx => exact ⟨A3, δ2, R5, s6, e5⟩
      | ct => exact ⟨A3, δ2, R5, s6, e5⟩
      | bk =>
        cases e5
        exact q τ3 A3 H3 R5 s6
      | rt r =>
        cases e5
        exact q τ3 A3 H3 R5 s6
      | ro r =>
        cases e5
        exact q τ3 A3 H3 R5 s6

/-! ### blocks and simple statements -/
theorem xb_nil : XB X [] sPass := pss_nil.weak fun D σ H ⟨G, H0, δ, o, δ', eK, R, e, q⟩ => by
  cases e
  exact q σ H0 H R (Sub.refl _)
theorem xb_cons {st : Stmt} {rest : List Stmt} {a b : Es} (h1 : XS X st a) (h2 : XB X rest b) : XB X (st :: rest) (sSeq a b) := (pss_cons h1 h2).weak fun D σ H ⟨G, H0, δ, o, δ', eK, R, e, q⟩ => by
  simp only [sSeq, Option.bind_eq_some_iff] at e
  obtain ⟨⟨o1, δ1⟩, e1, e2⟩ := e
  refine ⟨G, H0, δ, o1, δ1, eK, R, e1, fun τ A H1 R1 s1 => ?_⟩
  cases o1 with
  | nx => exact ⟨G, A, δ1, o, δ', eK, R1, e2, fun τ2 A2 H2 R2 s2 => q τ2 A2 H2 R2 (s1.trans s2)⟩
  | bk =>
    cases e2
    exact q τ A H1 R1 s1
  | ct =>
    cases e2
    exact q τ A H1 R1 s1
  | rt r =>
    cases e2
    exact q τ A H1 R1 s1
  | ro r =>
    cases e2
    exact q τ A H1 R1 s1
theorem xb_one {st : Stmt} {a : Es} (h1 : XS X st a) : XB X [st] a := pss_one h1
theorem xs_pass : XS X (.Pass pos) sPass := ps_pass.weak fun D σ H ⟨G, H0, δ, o, δ', eK, R, e, q⟩ => by
  cases e
  exact q σ H0 H R (Sub.refl _)
theorem xs_break : XS X (.Break pos) sBreak := ps_break.weak fun D σ H ⟨G, H0, δ, o, δ', eK, R, e, q⟩ => by
  cases e
  exact q σ H0 H R (Sub.refl _)
theorem xs_continue : XS X (.Continue pos) sCont := ps_continue.weak fun D σ H ⟨G, H0, δ, o, δ', eK, R, e, q⟩ => by
  cases e
  exact q σ H0 H R (Sub.refl _)
theorem xs_never {st : Stmt} : XS X st sNever := ps_never.weak fun D σ H ⟨G, H0, δ, o, δ', eK, R, e, q⟩ => by cases e
theorem xs_ret {a : Ev} (h : XV X e a) : XS X (.Return (some e) pos) (sRet a) := (ps_ret h).weak fun D σ H ⟨G, H0, δ, o, δ', eK, R, e, q⟩ => by
  simp only [sRet, Option.map_eq_some_iff] at e
  obtain ⟨⟨r, δ1⟩, e1, e2⟩ := e
  cases e2
  exact ⟨G, H0, δ, r, δ1, eK, R, e1, fun v A H1 R1 s1 k => q σ A H1 R1 s1 v k⟩
theorem xs_retN : XS X (.Return none pos) sRetN := ps_retN.weak fun D σ H ⟨G, H0, δ, o, δ', eK, R, e, q⟩ => by
  cases e
  exact q σ H0 H R (Sub.refl _) .non .non
theorem xs_if {c : Expr} {a b : List Stmt} {t : Et} {A B : Es} (hc : XT X c t) (ha : XB X a A) (hb : XB X b B) : XS X (.If c a b pos) (sIf t A B) := (ps_if hc ha hb).weak fun D σ H ⟨G, H0, δ, o, δ', eK, R, e, q⟩ => by
  simp only [sIf, Option.bind_eq_some_iff] at e
  obtain ⟨⟨k, δ1⟩, e1, e2⟩ := e
  refine ⟨G, H0, δ, k, δ1, eK, R, e1, fun A1 H1 R1 s1 => ?_⟩
  cases k with
  | true => exact iteT ⟨G, A1, δ1, o, δ', eK, R1, e2, fun τ2 A2 H2 R2 s2 => q τ2 A2 H2 R2 (s1.trans s2)⟩
  | false => exact iteF ⟨G, A1, δ1, o, δ', eK, R1, e2, fun τ2 A2 H2 R2 s2 => q τ2 A2 H2 R2 (s1.trans s2)⟩
theorem xs_ex {a : Ev} (h : XV X e a) (hs : swapsWith e none pos.line X.env = pure false := by rfl) : XS X (.Expr e pos) (sEx a) := (ps_expr h hs).weak fun D σ H ⟨G, H0, δ, o, δ', eK, R, e, q⟩ => by
  simp only [sEx, Option.map_eq_some_iff] at e
  obtain ⟨⟨r, δ1⟩, e1, e2⟩ := e
  cases e2
  exact ⟨G, H0, δ, r, δ1, eK, R, e1, fun v A H1 R1 s1 k => q σ A H1 R1 s1⟩
theorem setSlot_lt {δ δ' : Env} {i : Nat} {s : Slot} (h : setSlot δ i s = some δ') : i < δ.length := by
  unfold setSlot at h
  cases es : δ[i]? with
  | none =>
    rw [es] at h
    cases h
  | some s => exact (List.getElem?_eq_some_iff.mp es).1
/-- a result goes to a name -/
theorem Rl.store {G : Gx} {A H : Hp} {δ δ' : Env} {σ : L2.St} {i : Nat} {r : Res} {v : V} (R : Rl G A H δ σ) (k : ResOk G A H δ σ r v) (h : setSlot δ i (slotOf r) = some δ') : Rl G A H δ' (σ.set i (some v)) := by
  have hlt := setSlot_lt h
  rw [← R.len] at hlt
  cases r with
  | dat d => exact Rl.set R h ⟨v, List.getElem?_set_self hlt, k⟩ rfl (fun z => Bool.noConfusion z)
  | new ds =>
    obtain ⟨p, vs, rfl, e1, e2, e3, e4, e5⟩ := k
    exact Rl.set R h ⟨p, vs, List.getElem?_set_self hlt, e1, e2, e3, e4⟩ rfl (fun _ q hq j => by
      obtain ⟨p', y1, y2⟩ := hq
      rw [List.getElem?_set_self hlt] at y1
      cases y1
      rcases y2 with rfl | ⟨y2, _⟩
      · exact e5 j
      · cases y2)
  | newD t kvs =>
    obtain ⟨p, rfl, e1, e3, e4, e5⟩ := k
    exact Rl.set R h ⟨p, List.getElem?_set_self hlt, e1, e3, e4⟩ rfl (fun _ q hq j => by
      obtain ⟨p', y1, y2⟩ := hq
      rw [List.getElem?_set_self hlt] at y1
      cases y1
      rcases y2 with rfl | ⟨y2, _⟩
      · exact e5 j
      · cases y2)
theorem set_read {i : Nat} {a : Ev} {D : Ends} {σ : L2.St} {H : Hp} (h : kS K (sSet i a) D σ H) : tAsg (kE K a) (gName i) D σ H := by
  obtain ⟨G, H0, δ, o, δ', eK, R, e, q⟩ := h
  simp only [sSet, Option.bind_eq_some_iff, Option.map_eq_some_iff] at e
  obtain ⟨⟨r, δ1⟩, e1, δ2, e2, e3⟩ := e
  cases e3
  refine ⟨G, H0, δ, r, δ1, eK, R, e1, fun v A H1 R1 s1 k => ?_⟩
  exact q _ A H1 (R1.store k e2) s1
theorem xs_set {i : Nat} {x : Str} {a : Ev} {pos' : Pos} (hN : X.N.Nodup) (hi : X.N[i]? = some x) (hx : Loc X.env.scope x) (h : XV X e a) (hs : swapsWith e (some (.Name x pos')) pos.line X.env = pure false := by rfl)
    (hf : X.fn x = true ∨ X.env.scope.names.lookup x = some .local := by first | exact .inl rfl | exact .inr rfl | assumption) : XS X (.Assign [.Name x pos'] e pos) (sSet i a) := (ps_set hN hi hx h hs hf).weak fun _ _ _ h => set_read h
/-- a, b = e -/
theorem xs_unp {es : List Expr} {n : Nat} {t : TGs} {is : List Nat} {a : Ev} {j : Nat} {tp : Pos} (hg : PG X (.Tuple es j tp) (gTup X.K n t)) (hn : n = is.length) (gs : GSs X.K t is) (h : XV X e a) (hs : swapsWithSole [.Tuple es j tp] e pos.line X.env = pure false := by rfl) (hw : swappedStores [.Tuple es j tp] e X.env = pure none := by rfl)
    (h1 : (assignEach [.Tuple es j tp] X.env).map (·.2) = [assign (.Tuple es j tp) X.env] := by rfl) : XS X (.Assign [.Tuple es j tp] e pos) (sUnp is a) := (ps_asg h hg hs hw h1).weak fun D σ H ⟨G, H0, δ, o, δ', eK, R, e, q⟩ => by
  simp only [sUnp, Option.bind_eq_some_iff] at e
  obtain ⟨⟨r, δ1⟩, e1, e2⟩ := e
  refine ⟨G, H0, δ, r, δ1, eK, R, e1, fun v A H1 R1 s1 k => ?_⟩
  cases r with
  | new ds => cases e2
  | newD _ _ => cases e2
  | dat d =>
    cases d with
    | tuple ds =>
      simp only [Option.map_eq_some_iff] at e2
      obtain ⟨δ2, e3, e4⟩ := e2
      cases e4
      exact gs_tup hn gs G A H1 δ1 _ σ v _ eK R1 k e3 _ fun τ R2 _ => q τ A H1 R2 s1
    | _ => cases e2
/-- x.append(e) -/
theorem withOwn_at {G : Gx} {A H : Hp} {δ δ' : Env} {σ : L2.St} {i : Nat} {k : List D → Option (List D)} (R : Rl G A H δ σ) (h : withOwn δ i k = some δ') :
    ∃ p xs vs ys, σ[i]? = some (some (.ref p)) ∧ H p = some (.lst vs) ∧ RelAll G.K A vs xs ∧ k xs = some ys ∧ ∀ ws, RelAll G.K A ws ys → Rl G A (upd H p (.lst ws)) δ' σ := by
  unfold withOwn at h
  cases es : δ[i]? with
  | none =>
    rw [es] at h
    cases h
  | some s =>
    rw [es] at h
    have sj := R.slot i s es
    cases s with
    | own xs =>
      simp only [Option.map_eq_some_iff] at h
      obtain ⟨ys, e1, rfl⟩ := h
      obtain ⟨p, vs, x1, x2, x3, x4, x5⟩ := sj
      exact ⟨p, xs, vs, ys, x1, x2, x3, e1, fun ws hw => R.put es rfl x1 hw (.inl ⟨rfl, xs, rfl⟩)⟩
    | prm xs =>
      simp only [Option.map_eq_some_iff] at h
      obtain ⟨ys, e1, rfl⟩ := h
      obtain ⟨p, vs, x1, x0, x2, x3, x4⟩ := sj
      exact ⟨p, xs, vs, ys, x1, x2, x3, e1, fun ws hw => R.put es rfl x1 hw (.inr ⟨rfl, xs, rfl⟩)⟩
    | _ => cases h
/-- the slot's list as it stands before the arguments -/
theorem own_ref {G : Gx} {A H : Hp} {δ : Env} {σ : L2.St} {i : Nat} (R : Rl G A H δ σ) (h : ownAt δ i = true) : ∃ p vs, σ[i]? = some (some (.ref p)) ∧ H p = some (.lst vs) := by
  unfold ownAt at h
  cases es : δ[i]? with
  | none =>
    rw [es] at h
    cases h
  | some s =>
    rw [es] at h
    have sj := R.slot i s es
    cases s with
    | own ds =>
      obtain ⟨p, vs, h1, h2, _⟩ := sj
      exact ⟨p, vs, h1, h2⟩
    | prm ds =>
      obtain ⟨p, vs, h1, _, h2, _⟩ := sj
      exact ⟨p, vs, h1, h2⟩
    | _ => cases h
theorem xs_app {i : Nat} {y : Str} {py ap cp : Pos} {a : Ev} (hv : PE X (.Name y py) (tVar i)) (h : XV X e a)
    (hs : starEach [e] X.env = (false, eval e X.env) :: starEach [] X.env := by rfl)
    (hbase : attributeBase (.Name y py) "append" X.env (eval (.Name y py) X.env) = eval (.Name y py) X.env := by rfl)
    (hfew : ((backTo cp (starEach [e] X.env)).all (fun x => !x.1) && (backToKw cp (keywordEach [] X.env)).all (fun x => x.1.isSome)
      && decide ([e].length + ([] : List Keyword).length + (if ([] : List Keyword).isEmpty then 0 else 1) < 30)) = true := by rfl)
    (hline : (ap.endLine == cp.line) = true := by rfl) (hplain : (backTo cp (starEach [] X.env)).any (·.1) = false := by rfl) (hsw : swapsWith (.Call (.Attribute (.Name y py) "append" ap) [e] [] cp) none pos.line X.env = pure false := by rfl) :
    XS X (.Expr (.Call (.Attribute (.Name y py) "append" ap) [e] [] cp) pos) (sApp i a) :=
  (ps_expr (pe_bm PySem.F.plainAttrs_list PySem.F.slot_list_append PySem.F.type_list_append mt_append hv (pa_cons h pa_nil hs) hbase hfew hline hs hplain) hsw).weak fun D σ H ⟨G, H0, δ, o, δ', eK, R, e, q⟩ => by
    simp only [sApp, Option.bind_eq_some_iff, Option.map_eq_some_iff] at e
    obtain ⟨⟨r, δ1⟩, e1, δ2, e2, e3⟩ := e
    cases e3
    split at e1
    · rename_i ho
      obtain ⟨p, vs, hp, hl⟩ := own_ref R ho
      refine ⟨.ref p, hp, .inl ⟨rfl, vs, SqL.of hl⟩, G, H0, δ, r, δ1, eK, R, e1, fun v A H1 R1 s1 k => ?_⟩
      obtain ⟨A2, R2, s2, k2⟩ := R1.toD k
      obtain ⟨p', xs, ws, ys, x1, x2, x3, x4, x5⟩ := withOwn_at R2 e2
      rw [hp] at x1
      cases x1
      split at x4
      · rename_i hlen
        cases x4
        refine ⟨p, ws, v, rfl, rfl, x2, Nat.lt_of_lt_of_le (by rw [x3.length]; exact hlen) (line_le (Nat.le_refl _)), ?_⟩
        exact q σ A2 _ (x5 _ (x3.append (.cons k2 .nil))) (s1.trans s2)
      · cases x4
    · cases e1
/-- x.pop() -/
theorem xs_pop {i : Nat} {y : Str} {py ap cp : Pos} (hv : PE X (.Name y py) (tVar i))
    (hbase : attributeBase (.Name y py) "pop" X.env (eval (.Name y py) X.env) = eval (.Name y py) X.env := by rfl)
    (hline : (ap.endLine == cp.line) = true := by rfl) (hsw : swapsWith (.Call (.Attribute (.Name y py) "pop" ap) [] [] cp) none pos.line X.env = pure false := by rfl) :
    XS X (.Expr (.Call (.Attribute (.Name y py) "pop" ap) [] [] cp) pos) (sPop i) :=
  (ps_expr (pe_bm0 PySem.F.plainAttrs_list PySem.F.slot_list_pop PySem.F.type_list_pop mt_pop hv hbase hline) hsw).weak fun D σ H ⟨G, H0, δ, o, δ', eK, R, e, q⟩ => by
    simp only [sPop, Option.map_eq_some_iff] at e
    obtain ⟨δ2, e2, e3⟩ := e
    cases e3
    obtain ⟨p', xs, ws, ys, x1, x2, x3, x4, x5⟩ := withOwn_at R e2
    split at x4
    · cases x4
    · rename_i hne
      cases x4
      have hw : ∃ y, ws[ws.length - 1]? = some y := by
        have : 0 < ws.length := by
          rw [x3.length]
          cases xs with
          | nil => simp at hne
          | cons _ _ => simp
        exact ⟨ws[ws.length - 1]'(by omega), List.getElem?_eq_getElem (by omega)⟩
      obtain ⟨y, hy⟩ := hw
      refine ⟨.ref p', x1, .inl ⟨rfl, ws, SqL.of x2⟩, p', ws, y, rfl, rfl, x2, hy, ?_⟩
      exact q σ H0 _ (x5 _ x3.dropLast) (Sub.refl _)
/-- x[i] = e -/
theorem ixN_eq (n : Nat) (i : Int) : IP.ixN n i = L2.ixN n i := rfl
theorem xs_setIx {i : Nat} {y : Str} {py tp : Pos} {ie : Expr} {f g : Eo} (hv : PE X (.Name y py) (tVar i)) (hi : XO X ie g) (h : XO X e f)
    (ha : ∀ v, assign (.Subscript (.Name y py) ie tp) X.env v = (do
      let ov ← holding [v] (eval (.Name y py) X.env)
      let iv ← holding [v, ov] (eval ie X.env)
      standAt tp
      holding [v, ov, iv] (setItem ov iv v)
      release [v, ov, iv] []) := by intro _; rfl)
    (hs : swapsWithSole [.Subscript (.Name y py) ie tp] e pos.line X.env = pure false := by rfl) (hw : swappedStores [.Subscript (.Name y py) ie tp] e X.env = pure none := by rfl)
    (h1 : (assignEach [.Subscript (.Name y py) ie tp] X.env).map (·.2) = [assign (.Subscript (.Name y py) ie tp) X.env] := by rfl) :
    XS X (.Assign [.Subscript (.Name y py) ie tp] e pos) (sSetIx i g f) :=
  (ps_asg h (pg_sub hv hi set_list ha) hs hw h1).weak fun D σ H ⟨G, H0, δ, o, δ', eK, R, e, q⟩ => by
    simp only [sSetIx, Option.bind_eq_some_iff] at e
    obtain ⟨⟨o1, δ1⟩, e1, ⟨o2, δ2⟩, e2, e3⟩ := e
    refine ⟨G, H0, δ, o1, δ1, eK, R, e1, fun v A H1 R1 s1 k1 => ?_⟩
    split at e2
    · rename_i ho
      obtain ⟨p, vs, hp, hl⟩ := own_ref R1 ho
      refine ⟨.ref p, hp, G, A, δ1, o2, δ2, eK, R1, e2, fun w A2 H2 R2 s2 k2 => ?_⟩
      cases o1 with
      | «at» _ => cases e3
      | val d =>
        cases o2 with
        | «at» _ => cases e3
        | val d2 =>
          cases d2 with
          | int k =>
            simp only [Option.map_eq_some_iff] at e3
            obtain ⟨δ3, e4, e5⟩ := e3
            cases e5
            cases k2
            obtain ⟨p', xs, ws, ys, x1, x2, x3, x4, x5⟩ := withOwn_at R2 e4
            rw [hp] at x1
            cases x1
            simp only [Option.map_eq_some_iff] at x4
            obtain ⟨j, x6, x7⟩ := x4
            subst x7
            refine ⟨p, ws, k, j, rfl, rfl, x2, by rw [x3.length]; exact x6, ?_⟩
            exact q σ A2 _ (x5 _ (RelAll.set (Rel.sub s2 k1) j x3)) (s1.trans s2)
          | _ => cases e3
    · cases e2
/-- x op= e, of ints -/
theorem xs_aug {i : Nat} {x : Str} {op : Operator} {b : Int → Int → Int} {f : Eo} {pos' : Pos} (hN : X.N.Nodup) (hi : X.N[i]? = some x) (hx : Loc X.env.scope x) (h : XO X e f) (ho : PIp X op (ipI b))
    (hf : X.fn x = true ∨ X.env.scope.names.lookup x = some .local := by first | exact .inl rfl | exact .inr rfl | assumption) : XS X (.AugAssign (.Name x pos') op e pos) (sAug i b f) :=
  (ps_aug hN hi hx h ho hf).weak fun D σ H ⟨G, H0, δ, o, δ', eK, R, e, q⟩ => by
    unfold sAug at e
    cases es : δ[i]? with
    | none =>
      rw [es] at e
      cases e
    | some s =>
      rw [es] at e
      have sj := R.slot i s es
      cases s with
      | dat d =>
        cases d with
        | int a =>
          simp only [Option.bind_eq_some_iff] at e
          obtain ⟨⟨o1, δ1⟩, e1, e2⟩ := e
          obtain ⟨v, x1, x2⟩ := sj
          cases x2
          refine ⟨_, x1, G, H0, δ, o1, δ1, eK, R, e1, fun w A H1 R1 s1 k1 => ?_⟩
          cases o1 with
          | «at» _ => cases e2
          | val d =>
            cases d with
            | int c =>
              simp only [Option.map_eq_some_iff] at e2
              obtain ⟨δ2, e3, e4⟩ := e2
              cases e4
              cases k1
              exact ⟨a, c, rfl, rfl, q _ A H1 (R1.store (r := .dat (.int (b a c))) (v := .int (b a c)) (.int _) e3) s1⟩
            | _ => cases e2
        | _ => cases e
      | _ => cases e
end
end IP
end
section
set_option Elab.async false
set_option linter.all false
set_option maxRecDepth 100000
set_option maxHeartbeats 2000000
namespace IP
open PySem L2
/-! ### a new list that nobody names yet stays as it is: it is taken for a thing of the entry -/
section
variable {G : Gx} {A B H H' : Hp} {δ δ' : Env} {σ : L2.St} {p : Addr} {u0 : HO}
def Gx.withO (G : Gx) (p : Addr) (u : HO) : Gx := { G with H := upd G.H p u }
abbrev Gx.with (G : Gx) (p : Addr) (vs : List V) : Gx := G.withO p (.lst vs)
theorem Rl.hold (R : Rl G A H δ σ) (h1 : H p = some u0) (h2 : A p = none) (h3 : G.H p = none) (h4 : ∀ i, ¬ Holds H δ σ i p) (hu : ¬ TbX u0 := by exact fun z => z) : Rl (G.withO p u0) A H δ σ := by
  refine ⟨R.len, R.sub, R.up, fun a o e h h' => ?_, fun a o e => ?_, fun i s e => ?_, R.inj, R.prs, R.qrs, R.tabs.1, fun z hz => ?_⟩
  rotate_left 3
  · have ne : z.1 ≠ p := fun e => by
      obtain ⟨ps, e1, _⟩ := R.tabs.1 z hz
      rw [e, h1] at e1
      exact hu (by rw [Option.some.inj e1]; trivial)
    have t := R.tabs.2 z hz
    refine ⟨?_, t.2.1, fun a o e => ?_⟩
    · show upd G.H p u0 z.1 = none
      rw [upd_ne ne]
      exact t.1
    · have e' : upd G.H p u0 a = some o := e
      by_cases ha : a = p
      · rw [ha, upd_same] at e'
        cases e'
        exact hu
      · rw [upd_ne ha] at e'
        exact t.2.2 a o e'
  · have e' : upd G.H p u0 a = some o := e
    by_cases ha : a = p
    · subst ha
      rw [upd_same] at e'
      cases e'
      exact h1
    · rw [upd_ne ha] at e'
      exact R.keep a o e' h h'
  · rcases R.fro a o e with h | h
    · exact .inl h
    · refine .inr ?_
      have ha : a ≠ p := fun z => by
        rw [z, h2] at e
        cases e
      show upd G.H p u0 a = none
      rw [upd_ne ha]
      exact h
  · have sj := R.slot i s e
    cases s with
    | own ds =>
      obtain ⟨q, ws, e1, e2, e3, e4, e5⟩ := sj
      refine ⟨q, ws, e1, e2, e3, e4, ?_⟩
      have hq : q ≠ p := fun z => by
        subst z
        exact h4 i (Holds.of e rfl e1)
      show upd G.H p u0 q = none
      rw [upd_ne hq]
      exact e5
    | obj fs =>
      obtain ⟨q, w, e1, e2, e3, e4⟩ := sj
      have hq : q ≠ p := fun z => by
        subst z
        exact h4 i (Holds.of e rfl e1)
      have hw : w ≠ p := fun z => by
        subst z
        exact h4 i (Holds.ofRow e rfl rfl e1 e2.row)
      refine ⟨q, w, e1, e2, ?_, ?_⟩
      · show upd G.H p u0 q = none
        rw [upd_ne hq]
        exact e3
      · show upd G.H p u0 w = none
        rw [upd_ne hw]
        exact e4
    | dct t kvs =>
      obtain ⟨q, e1, e2, e4, e5⟩ := sj
      refine ⟨q, e1, e2, e4, ?_⟩
      have hq : q ≠ p := fun z => by
        subst z
        exact h4 i (Holds.of e rfl e1)
      show upd G.H p u0 q = none
      rw [upd_ne hq]
      exact e5
    | _ => exact sj
structure HeldO (G : Gx) (A H : Hp) (δ : Env) (σ : L2.St) (p : Addr) (u0 : HO) : Prop where
  at_ : H p = some u0
  a : A p = none
  g : G.H p = none
  h : ∀ i, ¬ Holds H δ σ i p
abbrev Held (G : Gx) (A H : Hp) (δ : Env) (σ : L2.St) (p : Addr) (vs : List V) : Prop := HeldO G A H δ σ p (.lst vs)
/-- and is found again -/
theorem Rl.found (R0 : Rl G A H δ σ) (h : HeldO G A H δ σ p u0) {σ' : L2.St} (R : Rl (G.withO p u0) B H' δ' σ') : Rl G B H' δ' σ' ∧ HeldO G B H' δ' σ' p u0 := by
  have hpr : ∀ z ∈ G.pr, z.2 ≠ p := fun z hz e => h.h z.1 (e ▸ R0.prHold hz)
  have hqs : p ∉ G.qs := fun hq => by
    obtain ⟨i, hi⟩ := R0.qrHold hq
    exact h.h i hi
  have hp : H' p = some u0 := R.keep p u0 upd_same hpr hqs
  have hB : B p = none := by
    cases q : B p with
    | none => rfl
    | some o =>
      rcases R.fro p o q with ⟨u, hu⟩ | hu
      · have := R0.up p u hu
        rw [h.a] at this
        cases this
      · have hu' : upd G.H p u0 p = none := hu
        rw [upd_same] at hu'
        cases hu'
  have back : ∀ q, upd G.H p u0 q = none → G.H q = none := fun q e => by
    by_cases hq : q = p
    · rw [hq]
      exact h.g
    · rw [upd_ne hq] at e
      exact e
  refine ⟨⟨R.len, R.sub, R.up, fun a o e hh hq => R.keep a o ?_ hh hq, fun a o e => ?_, fun i s e => ?_, R.inj, R.prs, R.qrs, R.tabs.1, fun z hz => ⟨back _ (R.tabs.2 z hz).1, (R.tabs.2 z hz).2.1, fun a o e => (R.tabs.2 z hz).2.2 a o (by
    have ha : a ≠ p := fun z => by
      rw [z, h.g] at e
      cases e
    show upd G.H p u0 a = some o
    rw [upd_ne ha]
    exact e)⟩⟩, hp, hB, h.g, fun i hi => ?_⟩
  · have ha : a ≠ p := fun z => by
      rw [z, h.g] at e
      cases e
    show upd G.H p u0 a = some o
    rw [upd_ne ha]
    exact e
  · rcases R.fro a o e with z | z
    · exact .inl z
    · exact .inr (back a z)
  · have sj := R.slot i s e
    cases s with
    | own ds =>
      obtain ⟨q, ws, e1, e2, e3, e4, e5⟩ := sj
      exact ⟨q, ws, e1, e2, e3, e4, back q e5⟩
    | obj fs =>
      obtain ⟨q, w, e1, e2, e3, e4⟩ := sj
      exact ⟨q, w, e1, e2, back q e3, back w e4⟩
    | dct t kvs =>
      obtain ⟨q, e1, e2, e4, e5⟩ := sj
      exact ⟨q, e1, e2, e4, back q e5⟩
    | _ => exact sj
  · rcases (R.held hi).2.2 with x | ⟨z, x1, x2⟩ | x
    · have x' : upd G.H p u0 p = none := x
      rw [upd_same] at x'
      cases x'
    · exact hpr z x1 x2
    · exact hqs x
end

/-! ### several values at once -/
def isNew : Res → Bool
  | .dat _ => false
  | _ => true
def Pend (G : Gx) (A H : Hp) (δ : Env) (σ : L2.St) : List Res → List V → Prop
  | [], [] => True
  | r :: rs, v :: vs => ResOk G A H δ σ r v ∧ Pend G A H δ σ rs vs ∧ (isNew r = true → ∀ p, v = .ref p → ∀ r' v', (r', v') ∈ rs.zip vs → isNew r' = true → v' ≠ .ref p)
  | _, _ => False
def kR (K : PySem.W.Frag) (fs : List Ev) : TA := fun σ H Q => ∃ G H0 δ rs δ', G.K = K ∧ Rl G H0 H δ σ ∧ pEvs fs δ = some (rs, δ') ∧ ∀ vs H0' H', Rl G H0' H' δ' σ → Sub H0 H0' → Pend G H0' H' δ' σ rs vs → Q vs H'
section
variable {X : Cx} {K : PySem.W.Frag} {a : Expr} {es : List Expr} {f : Ev} {fs : List Ev} {pos : Pos}
theorem xr_nil : PA X [] (kR X.K []) := pa_nil.weak fun σ H Q ⟨G, H0, δ, res, δ', eK, R, e, q⟩ => by
  cases e
  exact q [] _ _ R (Sub.refl _) trivial
theorem pend_found {G : Gx} {B H' : Hp} {δ' : Env} {σ : L2.St} {p : Addr} {u0 : HO} (Rb : Rl G B H' δ' σ) : ∀ {rs : List Res} {us : List V}, Pend (G.withO p u0) B H' δ' σ rs us → G.H p = none → Pend G B H' δ' σ rs us ∧ ∀ r' v', (r', v') ∈ rs.zip us → isNew r' = true → v' ≠ .ref p
  | [], [], _, _ => ⟨trivial, fun _ _ h => by simp at h⟩
  | r :: rs, u :: us, ⟨h1, h2, h3⟩, hg => by
    obtain ⟨i1, i2⟩ := pend_found Rb h2 hg
    have hr : ResOk G B H' δ' σ r u ∧ (isNew r = true → u ≠ .ref p) := by
      cases r with
      | dat d => exact ⟨h1, fun z => nomatch z⟩
      | new ds =>
        obtain ⟨q, ws, x1, x2, x3, x4, x5, x6⟩ := h1
        have x5' : upd G.H p u0 q = none := x5
        have hq : q ≠ p := fun z => by
          rw [z, upd_same] at x5'
          cases x5'
        rw [upd_ne hq] at x5'
        exact ⟨⟨q, ws, x1, x2, x3, x4, x5', x6⟩, fun _ z => by
          rw [x1] at z
          cases z
          exact hq rfl⟩
      | newD t kvs =>
        obtain ⟨q, x1, x2, x4, x5, x6⟩ := h1
        have x5' : upd G.H p u0 q = none := x5
        have hq : q ≠ p := fun z => by
          rw [z, upd_same] at x5'
          cases x5'
        rw [upd_ne hq] at x5'
        exact ⟨⟨q, x1, x2, x4, x5', x6⟩, fun _ z => by
          rw [x1] at z
          cases z
          exact hq rfl⟩
    refine ⟨⟨hr.1, i1, h3⟩, fun r' v' hm he => ?_⟩
    rw [List.zip_cons_cons] at hm
    rcases List.mem_cons.mp hm with e | e
    · cases e
      exact hr.2 he
    · exact i2 r' v' e he
theorem xr_cons (ha : XV X a f) (hb : PA X es (kR X.K fs)) (hs : starEach (a :: es) X.env = (false, eval a X.env) :: starEach es X.env := by rfl) : PA X (a :: es) (kR X.K (f :: fs)) := (pa_cons ha hb hs).weak fun σ H Q ⟨G, H0, δ, res, δ', eK, R, e, q⟩ => by
  simp only [pEvs, Option.bind_eq_some_iff, Option.map_eq_some_iff] at e
  obtain ⟨⟨r1, δ1⟩, e1, ⟨rs, δ2⟩, e2, e3⟩ := e
  cases e3
  refine ⟨G, H0, δ, r1, δ1, eK, R, e1, fun v A H1 R1 s1 k1 => ?_⟩
  cases r1 with
  | dat d => exact ⟨G, A, δ1, rs, δ2, eK, R1, e2, fun vs B H2 R2 s2 k2 => q _ B H2 R2 (s1.trans s2) ⟨Rel.sub s2 k1, k2, fun z => nomatch z⟩⟩
  | new ds =>
    obtain ⟨p, ws, rfl, x2, x3, x4, x5, x6⟩ := k1
    refine ⟨G.withO p (.lst ws), A, δ1, rs, δ2, eK, R1.hold x2 x4 x5 x6, e2, fun vs B H2 R2 s2 k2 => ?_⟩
    obtain ⟨R3, hh⟩ := R1.found ⟨x2, x4, x5, x6⟩ R2
    obtain ⟨k3, k4⟩ := pend_found R3 k2 x5
    exact q _ B H2 R3 (s1.trans s2) ⟨⟨p, ws, rfl, hh.at_, x3.sub s2, hh.a, hh.g, hh.h⟩, k3, fun _ p' e r' v' hm he => by
      cases e
      exact k4 r' v' hm he⟩
  | newD t kvs =>
    obtain ⟨p, rfl, x2, x4, x5, x6⟩ := k1
    obtain ⟨o, y, _⟩ := x2.there
    refine ⟨G.withO p o, A, δ1, rs, δ2, eK, R1.hold y x4 x5 x6 (x2.nt y), e2, fun vs B H2 R2 s2 k2 => ?_⟩
    obtain ⟨R3, hh⟩ := R1.found ⟨y, x4, x5, x6⟩ R2
    obtain ⟨k3, k4⟩ := pend_found R3 k2 x5
    exact q _ B H2 R3 (s1.trans s2) ⟨⟨p, rfl, x2.mono s2 (hh.at_.trans y.symm), hh.a, hh.g, hh.h⟩, k3, fun _ p' e r' v' hm he => by
      cases e
      exact k4 r' v' hm he⟩
def setAll (σ : L2.St) : List Nat → List V → L2.St
  | i :: is, v :: vs => setAll (σ.set i (some v)) is vs
  | _, _ => σ
theorem pend_mono {G : Gx} {A H : Hp} {δ δ' : Env} {σ σ' : L2.St} : ∀ {rs : List Res} {vs : List V}, Pend G A H δ σ rs vs → (∀ r v, (r, v) ∈ rs.zip vs → isNew r = true → ∀ p, v = .ref p → ∀ i, Holds H δ' σ' i p → Holds H δ σ i p) → Pend G A H δ' σ' rs vs
  | [], [], _, _ => trivial
  | r :: rs, v :: vs, ⟨h1, h2, h3⟩, k => by
    refine ⟨?_, pend_mono h2 (fun r' v' hm => k r' v' (by rw [List.zip_cons_cons]; exact List.mem_cons_of_mem _ hm)), h3⟩
    cases r with
    | dat d => exact h1
    | new ds =>
      obtain ⟨q, ws, x1, x2, x3, x4, x5, x6⟩ := h1
      exact ⟨q, ws, x1, x2, x3, x4, x5, fun i hi => x6 i (k _ _ (by rw [List.zip_cons_cons]; exact List.mem_cons_self) rfl q x1 i hi)⟩
    | newD t kvs =>
      obtain ⟨q, x1, x2, x4, x5, x6⟩ := h1
      exact ⟨q, x1, x2, x4, x5, fun i hi => x6 i (k _ _ (by rw [List.zip_cons_cons]; exact List.mem_cons_self) rfl q x1 i hi)⟩
theorem Rl.storeAll {G : Gx} {A H : Hp} {δ' : Env} : ∀ {is : List Nat} {rs : List Res} {vs : List V} {δ : Env} {σ : L2.St}, Rl G A H δ σ → Pend G A H δ σ rs vs → setRs δ is rs = some δ' → Rl G A H δ' (setAll σ is vs)
  | [], [], [], _, _, R, _, e => by
    cases e
    exact R
  | [], [], _ :: _, _, _, _, h, _ => h.elim
  | [], _ :: _, _, _, _, _, _, e => by cases e
  | _ :: _, [], _, _, _, _, _, e => by cases e
  | _ :: _, _ :: _, [], _, _, _, h, _ => h.elim
  | i :: is, r :: rs, v :: vs, δ, σ, R, ⟨h1, h2, h3⟩, e => by
    simp only [setRs, Option.bind_eq_some_iff] at e
    obtain ⟨δ1, e1, e2⟩ := e
    have R1 := R.store h1 e1
    show Rl G A H δ' (setAll (σ.set i (some v)) is vs)
    refine Rl.storeAll R1 (pend_mono h2 fun r' v' hm he p hp j hj => ?_) e2
    obtain ⟨u, u1, u2, pz, u3, u4⟩ := hj
    have hlt := setSlot_lt e1
    have ed : δ1 = δ.set i (slotOf r) := by
      unfold setSlot at e1
      split at e1
      · cases e1
      · cases e1
      · cases e1
        rfl
      · cases e1
    by_cases hij : i = j
    · subst hij
      rw [List.getElem?_set_self (by rw [R.len]; exact hlt)] at u3
      cases u3
      rw [ed, List.getElem?_set_self hlt] at u1
      cases u1
      cases r with
      | dat d => cases u2
      | new es =>
        rcases u4 with rfl | ⟨u4, _⟩
        · exact absurd hp (h3 rfl p rfl r' v' hm he)
        · cases u4
      | newD t kvs =>
        rcases u4 with rfl | ⟨u4, _⟩
        · exact absurd hp (h3 rfl p rfl r' v' hm he)
        · cases u4
    · rw [List.getElem?_set_ne hij] at u3
      rw [ed, List.getElem?_set_ne hij] at u1
      exact ⟨u, u1, u2, pz, u3, u4⟩
theorem pend_length {G : Gx} {A H : Hp} {δ : Env} {σ : L2.St} : ∀ {rs : List Res} {vs : List V}, Pend G A H δ σ rs vs → rs.length = vs.length
  | [], [], _ => rfl
  | _ :: _, _ :: _, ⟨_, h, _⟩ => by rw [List.length_cons, List.length_cons, pend_length h]
  | [], _ :: _, h => h.elim
  | _ :: _, [], h => h.elim
theorem pEvs_length : ∀ {fs : List Ev} {δ δ' : Env} {rs : List Res}, pEvs fs δ = some (rs, δ') → rs.length = fs.length
  | [], _, _, _, e => by
    cases e
    rfl
  | f :: fs, _, _, _, e => by
    simp only [pEvs, Option.bind_eq_some_iff, Option.map_eq_some_iff] at e
    obtain ⟨_, _, ⟨_, _⟩, e2, e3⟩ := e
    cases e3
    rw [List.length_cons, List.length_cons, pEvs_length e2]
/-- a, b = e1, e2 -/
theorem xs_par {i j : Nat} {x y : Str} {b : Expr} {g : Ev} {px py pt : Pos} {kt k2 : Nat} {pt2 : Pos} (hc : X.calm = true) (hN : X.N.Nodup) (hi : X.N[i]? = some x) (hj : X.N[j]? = some y) (hij : i ≠ j)
    (hx : X.env.scope.names.lookup x = some .local) (hy : X.env.scope.names.lookup y = some .local) (ha : XV X a f) (hb : XV X b g)
    (hw : swappedStores [.Tuple [.Name x px, .Name y py] kt pt] (.Tuple [a, b] k2 pt2) X.env = pure (some [x, y]))
    (hs : swapsWithSole [.Tuple [.Name x px, .Name y py] kt pt] (.Tuple [a, b] k2 pt2) pos.line X.env = pure false := by rfl) (hs1 : starEach [a, b] X.env = (false, eval a X.env) :: starEach [b] X.env := by rfl) (hs2 : starEach [b] X.env = (false, eval b X.env) :: starEach [] X.env := by rfl) :
    XS X (.Assign [.Tuple [.Name x px, .Name y py] kt pt] (.Tuple [a, b] k2 pt2) pos) (sPar [i, j] [f, g]) :=
  (ps_par hc hN hi hj hij hx hy (xr_cons ha (xr_cons hb xr_nil hs2) hs1) hw hs).weak fun D σ H ⟨G, H0, δ, o, δ', eK, R, e, q⟩ => by
    simp only [sPar, Option.bind_eq_some_iff, Option.map_eq_some_iff] at e
    obtain ⟨⟨rs, δ1⟩, e1, δ2, e2, e3⟩ := e
    cases e3
    refine ⟨G, H0, δ, rs, δ1, eK, R, e1, fun vs A H1 R1 s1 k => ?_⟩
    have hl := pend_length k
    rw [pEvs_length e1] at hl
    match vs, hl, k with
    | [v, w], _, k => exact ⟨v, w, rfl, q _ A H1 (Rl.storeAll R1 k e2) s1⟩
theorem xs_par3 {i j l : Nat} {x y z : Str} {b c : Expr} {g h : Ev} {px py pz pt : Pos} {kt k2 : Nat} {pt2 : Pos} (hc : X.calm = true) (hN : X.N.Nodup) (hi : X.N[i]? = some x) (hj : X.N[j]? = some y) (hl : X.N[l]? = some z) (hij : i ≠ j) (hil : i ≠ l) (hjl : j ≠ l)
    (hx : X.env.scope.names.lookup x = some .local) (hy : X.env.scope.names.lookup y = some .local) (hz : X.env.scope.names.lookup z = some .local) (ha : XV X a f) (hb : XV X b g) (hcc : XV X c h)
    (hw : swappedStores [.Tuple [.Name x px, .Name y py, .Name z pz] kt pt] (.Tuple [a, b, c] k2 pt2) X.env = pure (some [x, y, z]))
    (hs : swapsWithSole [.Tuple [.Name x px, .Name y py, .Name z pz] kt pt] (.Tuple [a, b, c] k2 pt2) pos.line X.env = pure false := by rfl) (hs1 : starEach [a, b, c] X.env = (false, eval a X.env) :: starEach [b, c] X.env := by rfl) (hs2 : starEach [b, c] X.env = (false, eval b X.env) :: starEach [c] X.env := by rfl) (hs3 : starEach [c] X.env = (false, eval c X.env) :: starEach [] X.env := by rfl) :
    XS X (.Assign [.Tuple [.Name x px, .Name y py, .Name z pz] kt pt] (.Tuple [a, b, c] k2 pt2) pos) (sPar [i, j, l] [f, g, h]) :=
  (ps_par3 hc hN hi hj hl hij hil hjl hx hy hz (xr_cons ha (xr_cons hb (xr_cons hcc xr_nil hs3) hs2) hs1) hw hs).weak fun D σ H ⟨G, H0, δ, o, δ', eK, R, e, q⟩ => by
    simp only [sPar, Option.bind_eq_some_iff, Option.map_eq_some_iff] at e
    obtain ⟨⟨rs, δ1⟩, e1, δ2, e2, e3⟩ := e
    cases e3
    refine ⟨G, H0, δ, rs, δ1, eK, R, e1, fun vs A H1 R1 s1 k => ?_⟩
    have hl := pend_length k
    rw [pEvs_length e1] at hl
    match vs, hl, k with
    | [u, v, w], _, k => exact ⟨u, v, w, rfl, q _ A H1 (Rl.storeAll R1 k e2) s1⟩
end

/-! ### comprehensions -/
section
variable {G : Gx} {A H : Hp} {δ δ' δ0 : Env} {σ : L2.St}
theorem wipe_other {σ : L2.St} {i : Nat} : ∀ {vs : List Nat}, i ∉ vs → (wipe σ vs)[i]? = σ[i]?
  | [], _ => rfl
  | v :: vs, h => by
    simp only [List.mem_cons, not_or] at h
    unfold wipe
    rw [List.getElem?_set_ne (fun e => h.1 e.symm), wipe_other h.2]
theorem unAll_spec : ∀ {vs : List Nat} {δ δ' : Env}, unAll vs δ = some δ' → δ'.length = δ.length ∧ (∀ i, i ∈ vs → δ'[i]? = some .un) ∧ (∀ i, i ∉ vs → δ'[i]? = δ[i]?) ∧ (∀ i, i ∈ vs → δ[i]? = some .un ∨ ∃ d, δ[i]? = some (.dat d))
  | [], δ, δ', e => by
    cases e
    simp
  | v :: vs, δ, δ', e => by
    unfold unAll at e
    cases es : δ[v]? with
    | none =>
      rw [es] at e
      cases e
    | some s =>
      rw [es] at e
      have hlt : v < δ.length := (List.getElem?_eq_some_iff.mp es).1
      cases s with
      | un =>
        obtain ⟨h1, h2, h3, h4⟩ := unAll_spec e
        refine ⟨h1, fun i hi => ?_, fun i hi => h3 i fun z => hi (List.mem_cons_of_mem _ z), fun i hi => ?_⟩
        · rcases List.mem_cons.mp hi with z | z
          · subst z
            by_cases hv : i ∈ vs
            · exact h2 i hv
            · rw [h3 i hv]
              exact es
          · exact h2 i z
        · rcases List.mem_cons.mp hi with z | z
          · subst z
            exact .inl es
          · exact h4 i z
      | dat d =>
        obtain ⟨h1, h2, h3, h4⟩ := unAll_spec e
        refine ⟨by rw [h1, List.length_set], fun i hi => ?_, fun i hi => ?_, fun i hi => ?_⟩
        · rcases List.mem_cons.mp hi with z | z
          · subst z
            by_cases hv : i ∈ vs
            · exact h2 i hv
            · rw [h3 i hv]
              exact List.getElem?_set_self hlt
          · exact h2 i z
        · simp only [List.mem_cons, not_or] at hi
          rw [h3 i hi.2, List.getElem?_set_ne (fun z => hi.1 z.symm)]
        · rcases List.mem_cons.mp hi with z | z
          · subst z
            exact .inr ⟨d, es⟩
          · rcases h4 i z with h | ⟨d', h⟩
            · by_cases hvi : v = i
              · subst hvi
                exact .inr ⟨d, es⟩
              · rw [List.getElem?_set_ne hvi] at h
                exact .inl h
            · by_cases hvi : v = i
              · subst hvi
                exact .inr ⟨d, es⟩
              · rw [List.getElem?_set_ne hvi] at h
                exact .inr ⟨d', h⟩
      | _ => cases e
/-- names forgotten -/
theorem Rl.wipe {vs : List Nat} (R : Rl G A H δ σ) (e : unAll vs δ = some δ') : Rl G A H δ' (L2.wipe σ vs) := by
  obtain ⟨h1, h2, h3, h4⟩ := unAll_spec e
  have back : ∀ j q, Holds H δ' (L2.wipe σ vs) j q → Holds H δ σ j q := fun j q ⟨s, s1, s2, p, s3, s4⟩ => by
    by_cases hj : j ∈ vs
    · rw [h2 j hj] at s1
      cases s1
      cases s2
    · rw [h3 j hj] at s1
      rw [wipe_other hj] at s3
      exact ⟨s, s1, s2, p, s3, s4⟩
  have nin : ∀ {j : Nat} {s : Slot}, δ[j]? = some s → isPrm s = true → j ∉ vs := fun {j s} e1 e2 h => by
    rcases h4 _ h with q | ⟨d, q⟩
    · rw [q] at e1
      cases e1
      cases e2
    · rw [q] at e1
      cases e1
      cases e2
  refine ⟨by rw [wipe_length, h1]; exact R.len, R.sub, R.up, R.keep, R.fro, fun i s es => ?_, fun i j p a b => R.inj i j p (back _ _ a) (back _ _ b), fun z hz => ?_, fun q hq => ?_, R.tabs⟩
  · by_cases hi : i ∈ vs
    · rw [h2 i hi] at es
      cases es
      trivial
    · rw [h3 i hi] at es
      have sj := R.slot i s es
      cases s with
      | un => trivial
      | tb _ => exact sj
      | exc _ => exact (wipe_other hi).trans sj
      | dat d =>
        obtain ⟨v, e1, r⟩ := sj
        exact ⟨v, by rw [wipe_other hi]; exact e1, r⟩
      | own ds =>
        obtain ⟨q, ws, e1, r⟩ := sj
        exact ⟨q, ws, by rw [wipe_other hi]; exact e1, r⟩
      | prm ds =>
        obtain ⟨q, ws, e1, r⟩ := sj
        exact ⟨q, ws, by rw [wipe_other hi]; exact e1, r⟩
      | dct t kvs =>
        obtain ⟨q, e1, r⟩ := sj
        exact ⟨q, by rw [wipe_other hi]; exact e1, r⟩
      | obj ds =>
        obtain ⟨q, ws, e1, r⟩ := sj
        exact ⟨q, ws, by rw [wipe_other hi]; exact e1, r⟩
      | pob ds =>
        obtain ⟨q, ws, e1, r⟩ := sj
        exact ⟨q, ws, by rw [wipe_other hi]; exact e1, r⟩
  · obtain ⟨s, e1, e2, e3⟩ := R.prs z hz
    have hn := nin e1 e2
    exact ⟨s, by rw [h3 _ hn]; exact e1, e2, by rw [wipe_other hn]; exact e3⟩
  · obtain ⟨j, fs, p', e6, e7, e8⟩ := R.qrs q hq
    have hn := nin e6 rfl
    exact ⟨j, fs, p', by rw [h3 _ hn]; exact e6, by rw [wipe_other hn]; exact e7, e8⟩
theorem backAll_spec : ∀ {vs : List Nat} {δ : Env}, δ.length = δ0.length → (backAll δ0 vs δ).length = δ.length ∧ (∀ i, i ∈ vs → (backAll δ0 vs δ)[i]? = δ0[i]?) ∧ (∀ i, i ∉ vs → (backAll δ0 vs δ)[i]? = δ[i]?)
  | [], δ, _ => by simp [backAll]
  | v :: vs, δ, hl => by
    unfold backAll
    cases es : δ0[v]? with
    | none =>
      obtain ⟨h1, h2, h3⟩ := backAll_spec (vs := vs) (δ := δ) hl
      refine ⟨h1, fun i hi => ?_, fun i hi => h3 i fun z => hi (List.mem_cons_of_mem _ z)⟩
      rcases List.mem_cons.mp hi with z | z
      · subst z
        have n1 : ¬ i < δ0.length := fun z => by
          rw [List.getElem?_eq_getElem z] at es
          cases es
        show (backAll δ0 vs δ)[i]? = δ0[i]?
        rw [es]
        exact List.getElem?_eq_none (by omega)
      · exact h2 i z
    | some s =>
      have hlt : v < δ.length := by
        rw [hl]
        exact (List.getElem?_eq_some_iff.mp es).1
      obtain ⟨h1, h2, h3⟩ := backAll_spec (vs := vs) (δ := δ.set v s) (by rw [List.length_set]; exact hl)
      refine ⟨by rw [h1, List.length_set], fun i hi => ?_, fun i hi => ?_⟩
      · by_cases hv : i ∈ vs
        · exact h2 i hv
        · rcases List.mem_cons.mp hi with z | z
          · subst z
            show (backAll δ0 vs (δ.set i s))[i]? = _
            rw [h3 i hv, List.getElem?_set_self hlt, es]
          · exact absurd z hv
      · simp only [List.mem_cons, not_or] at hi
        show (backAll δ0 vs (δ.set v s))[i]? = _
        rw [h3 i hi.2, List.getElem?_set_ne (fun z => hi.1 z.symm)]
theorem wipe_wipe (σ : L2.St) (vs : List Nat) : L2.wipe (L2.wipe σ vs) vs = L2.wipe σ vs := by
  apply List.ext_getElem?
  intro i
  by_cases hi : i ∈ vs
  · have key : ∀ (τ : L2.St) (vs : List Nat), i ∈ vs → (L2.wipe τ vs)[i]? = τ[i]?.map fun _ => none := by
      intro τ vs
      induction vs with
      | nil => intro h; simp at h
      | cons v vs ih =>
        intro h
        unfold L2.wipe
        by_cases hv : v = i
        · subst hv
          by_cases hl : v < τ.length
          · rw [List.getElem?_set_self (by rw [wipe_length]; exact hl), List.getElem?_eq_getElem hl]
            rfl
          · rw [List.getElem?_eq_none (by rw [List.length_set, wipe_length]; omega), List.getElem?_eq_none (by omega)]
            rfl
        · rw [List.getElem?_set_ne hv]
          rcases List.mem_cons.mp h with z | z
          · exact absurd z.symm hv
          · exact ih z
    rw [key _ _ hi, key _ _ hi]
    cases σ[i]? <;> rfl
  · rw [wipe_other hi]
/-- a held list is written -/
theorem Rl.relay {p : Addr} {vs ws : List V} (R : Rl G A H δ σ) (h1 : H p = some (.lst vs)) (h2 : A p = none) (h3 : G.H p = none) (h4 : ∀ i, ¬ Holds H δ σ i p) : Rl G A (upd H p (.lst ws)) δ σ := by
  refine ⟨R.len, fun a o e => ?_, R.up, fun a o e h h' => ?_, R.fro, fun i s e => ?_, fun i j a x y => R.inj i j a (R.holdsOf (keep_lst h1) x) (R.holdsOf (keep_lst h1) y), R.prs, R.qrsOf (keep_lst h1), tabs_upd R.tabs h1 (fun z => z)⟩
  · rw [upd_ne (ne_of_none e h2)]
    exact R.sub a o e
  · rw [upd_ne (ne_of_none e h3)]
    exact R.keep a o e h h'
  · refine (R.slot i s e).mono (Sub.refl _) (fun a us ea hs ha => ?_) (fun _ _ _ h => h)
    have : a ≠ p := fun z => by
      subst z
      exact h4 i ⟨s, e, hs, ha⟩
    rw [upd_ne this]
    exact ea
theorem back_holds {A0 H0 : Hp} {vs : List Nat} {δ1 : Env} (R0 : Rl G A0 H0 δ0 σ) (e0 : unAll vs δ0 = some δ1) (R : Rl G A H δ (L2.wipe σ vs)) : ∀ j q, Holds H (backAll δ0 vs δ) σ j q → Holds H δ (L2.wipe σ vs) j q := fun j q ⟨u, u1, u2, p, u3, u4⟩ => by
  obtain ⟨h1, h2, h3, h4⟩ := unAll_spec e0
  have hl : δ.length = δ0.length := by
    have := R.len
    rw [wipe_length, R0.len] at this
    exact this.symm
  obtain ⟨b1, b2, b3⟩ := backAll_spec (vs := vs) hl
  by_cases hj : j ∈ vs
  · rw [b2 j hj] at u1
    rcases h4 j hj with z | ⟨d, z⟩
    · rw [z] at u1
      cases u1
      cases u2
    · rw [z] at u1
      cases u1
      cases u2
  · rw [b3 j hj] at u1
    exact ⟨u, u1, u2, p, by rw [wipe_other hj]; exact u3, u4⟩
/-- and remembered again -/
theorem Rl.back {A0 H0 : Hp} {vs : List Nat} {δ1 : Env} (R0 : Rl G A0 H0 δ0 σ) (e0 : unAll vs δ0 = some δ1) (s : Sub A0 A) (R : Rl G A H δ (L2.wipe σ vs)) : Rl G A H (backAll δ0 vs δ) σ := by
  obtain ⟨h1, h2, h3, h4⟩ := unAll_spec e0
  have hl : δ.length = δ0.length := by
    have := R.len
    rw [wipe_length, R0.len] at this
    exact this.symm
  obtain ⟨b1, b2, b3⟩ := backAll_spec (vs := vs) hl
  have fwd := back_holds R0 e0 R
  have nin : ∀ {j : Nat} {s : Slot}, δ0[j]? = some s → isPrm s = true → j ∉ vs := fun {j s} e1 e2 h => by
    rcases h4 _ h with q | ⟨d, q⟩
    · rw [q] at e1
      cases e1
      cases e2
    · rw [q] at e1
      cases e1
      cases e2
  refine ⟨by rw [b1, hl]; exact R0.len, R.sub, R.up, R.keep, R.fro, fun i u es => ?_, fun i j p a b => R.inj i j p (fwd _ _ a) (fwd _ _ b), fun z hz => ?_, fun q hq => ?_, R.tabs⟩
  · by_cases hi : i ∈ vs
    · rw [b2 i hi] at es
      rcases h4 i hi with z | ⟨d, z⟩
      · rw [z] at es
        cases es
        trivial
      · rw [z] at es
        cases es
        obtain ⟨v, e1, r⟩ := R0.slot i _ z
        exact ⟨v, e1, r.sub s⟩
    · rw [b3 i hi] at es
      have sj := R.slot i u es
      cases u with
      | un => trivial
      | tb _ => exact sj
      | exc _ => exact (wipe_other hi).symm.trans sj
      | dat d =>
        obtain ⟨v, e1, r⟩ := sj
        exact ⟨v, by rw [wipe_other hi] at e1; exact e1, r⟩
      | own ds =>
        obtain ⟨q, ws, e1, r⟩ := sj
        exact ⟨q, ws, by rw [wipe_other hi] at e1; exact e1, r⟩
      | prm ds =>
        obtain ⟨q, ws, e1, r⟩ := sj
        exact ⟨q, ws, by rw [wipe_other hi] at e1; exact e1, r⟩
      | dct t kvs =>
        obtain ⟨q, e1, r⟩ := sj
        exact ⟨q, by rw [wipe_other hi] at e1; exact e1, r⟩
      | obj ds =>
        obtain ⟨q, ws, e1, r⟩ := sj
        exact ⟨q, ws, by rw [wipe_other hi] at e1; exact e1, r⟩
      | pob ds =>
        obtain ⟨q, ws, e1, r⟩ := sj
        exact ⟨q, ws, by rw [wipe_other hi] at e1; exact e1, r⟩
  · obtain ⟨u, e1, e2, e3⟩ := R.prs z hz
    obtain ⟨u', e4, e5, e6⟩ := R0.prs z hz
    exact ⟨u, by rw [b3 _ (nin e4 e5)]; exact e1, e2, e6⟩
  · obtain ⟨j, fs, p', e6, e7, e8⟩ := R.qrs q hq
    by_cases hj : j ∈ vs
    · have key : ∀ (τ : L2.St) (ws : List Nat), j ∈ ws → ∀ v, (L2.wipe τ ws)[j]? ≠ some (some v) := by
        intro τ ws
        induction ws with
        | nil => intro h; simp at h
        | cons w ws ih =>
          intro h v
          unfold L2.wipe
          by_cases hv : w = j
          · subst hv
            by_cases hl : w < (L2.wipe τ ws).length
            · rw [List.getElem?_set_self hl]
              intro z
              cases z
            · rw [List.getElem?_eq_none (by rw [List.length_set]; omega)]
              intro z
              cases z
          · rw [List.getElem?_set_ne hv]
            rcases List.mem_cons.mp h with z | z
            · exact absurd z.symm hv
            · exact ih z v
      have this := key σ vs hj (V.ref p')
      exact absurd e7 this
    · exact ⟨j, fs, p', by rw [b3 _ hj]; exact e6, by rw [wipe_other hj] at e7; exact e7, e8⟩
end
section
variable {X : Cx} {K : PySem.W.Frag}
/-- the reading of a comprehension -/
theorem lc_read {it : Ei} {g : TG} {t : Tg} {tt : Et} {te : Ev} {vs : List Nat} (gs : GS K g t) (hv : ∀ i ∈ t.slots, i ∈ vs) {σ : L2.St} {H : Hp} {Q : VK} (h : kE K (vLc vs it t tt te) σ H Q) : tLc (kI K it) g (kT K tt) (kE K te) vs σ H Q := by
  obtain ⟨G, H0, δ, res, δ', eK, R, e, q⟩ := h
  simp only [vLc, Option.bind_eq_some_iff] at e
  obtain ⟨⟨⟨xs, ow⟩, δ1⟩, e1, δ2, e2, e3⟩ := e
  dsimp only at e2 e3
  split at e3
  · rename_i hlen
    simp only [Option.map_eq_some_iff] at e3
    obtain ⟨⟨ys, δ3⟩, e4, e5⟩ := e3
    cases e5
    refine ⟨G, H0, δ, xs, ow, δ1, eK, R, e1, fun J A H1 R1 s1 iw => ?_⟩
    intro D hD
    have fr := R1.freshU (o := .lst []) hD
    have R2 : Rl G A (upd H1 D (.lst [])) δ2 (wipe σ vs) := (R1.laid hD).wipe e2
    have hD2 : Held G A (upd H1 D (.lst [])) δ2 (wipe σ vs) D [] := ⟨upd_same, fr.1, fr.2.1, (by
      intro i hi
      have := ((R1.laid (o := .lst []) hD)).wipe e2
      obtain ⟨s, x1, x2, pz, x3, x4⟩ := hi
      obtain ⟨h1, h2, h3, h4⟩ := unAll_spec e2
      by_cases hj : i ∈ vs
      · rw [h2 i hj] at x1
        cases x1
        cases x2
      · rw [h3 i hj] at x1
        rw [wipe_other hj] at x3
        exact fr.2.2 i ⟨s, x1, x2, pz, x3, x4⟩)⟩
    -- the walked variable, if it is one, is not among the names of the comprehension
    have hk : ∀ {δ : Env} {A H : Hp}, Rl G A H δ (wipe σ vs) → (∀ i, i ∈ vs → δ[i]? = some .un) → still δ xs ow = true → ∀ k, ow = some k → (wipe σ vs)[k]? = σ[k]? := by
      intro δ A H R hun st k ek
      subst ek
      by_cases hj : k ∈ vs
      · simp only [still, hun k hj, slotD] at st
        cases st
      · exact wipe_other hj
    let P : Nat → Hp → Prop := fun i H => ∃ B δ acc accD zs, Rl G B H δ (wipe σ vs) ∧ Sub A B ∧ Held G B H δ (wipe σ vs) D acc ∧ RelAll G.K B acc accD ∧ (∀ i, i ∈ vs → δ[i]? = some .un) ∧ lcGo vs t tt te xs ow (xs.drop i) δ = some (zs, δ3) ∧ ys = accD ++ zs ∧ acc.length ≤ i
    have stl : ∀ {i : Nat} {δ : Env} {zs : List IP.D}, lcGo vs t tt te xs ow (xs.drop i) δ = some (zs, δ3) → still δ xs ow = true := by
      intro i δ zs e
      cases hd : xs.drop i with
      | nil =>
        rw [hd] at e
        unfold lcGo at e
        split at e
        · assumption
        · cases e
      | cons _ _ =>
        rw [hd] at e
        unfold lcGo at e
        split at e
        · assumption
        · cases e
    let GG : Hp → Prop := fun H => ∃ B δ, Rl G B H δ (wipe σ vs) ∧ Sub A B ∧ (∀ i, i ∈ vs → δ[i]? = some .un) ∧ still δ xs ow = true
    have w : Walk J xs.length GG (fun i H x H' => J.yld i H x H') :=
      ⟨fun i H hi ⟨B, δ, R, s, hun, st⟩ => iw.goes i B H δ _ R s (hk R hun st) st hi, fun H ⟨B, δ, R, s, hun, st⟩ => iw.stops B H δ _ R s (hk R hun st) st, fun i H x H' _ _ y => y⟩
    refine lc_it w P ⟨A, δ2, [], [], ys, R2, Sub.refl _, hD2, .nil, (unAll_spec e2).2.1, e4, rfl, Nat.le_refl _⟩ ?_ ?_ ?_
    · rintro i H _ ⟨B, δ, acc, accD, zs, R3, s3, _, _, hun, e6, _, _⟩
      exact ⟨B, δ, R3, s3, hun, stl e6⟩
    · rintro i x H H' hi ⟨B, δ, acc, accD, zs, R3, s3, hh, ra, hun, e6, ey, hl⟩ y
      have st := stl e6
      obtain ⟨C, d, R4, s4, sH, fr4, e7, r⟩ := iw.yields i B H δ _ x H' R3 s3 (hk R3 hun st) st hi y
      -- D is held through the whole turn
      have hh4 : Held G C H' δ (wipe σ vs) D acc := ⟨sH _ _ hh.at_, (by
        cases q : C D with
        | none => rfl
        | some o =>
          rcases fr4 D o q with ⟨u, hu⟩ | hu
          · rw [hh.a] at hu
            cases hu
          · rw [hh.at_] at hu
            cases hu), hh.g, fun i hi => hh.h i (R3.holdsOf (keep_sub sH) hi)⟩
      have R5 := R4.hold hh4.at_ hh4.a hh4.g hh4.h
      rw [List.drop_eq_getElem_cons hi] at e6
      have ed : xs[i] = d := by
        rw [List.getElem?_eq_getElem hi] at e7
        exact Option.some.inj e7
      rw [ed] at e6
      unfold lcGo at e6
      rw [if_pos st] at e6
      simp only [Option.bind_eq_some_iff] at e6
      obtain ⟨δ4, e8, ⟨k, δ5⟩, e9, e10⟩ := e6
      refine gs (G.with D acc) C H' δ δ4 (wipe σ vs) x d eK R5 r e8 _ fun τ R6 w6 => ?_
      have ww : wipe τ vs = wipe σ vs := (w6 vs hv).trans (wipe_wipe σ vs)
      refine ⟨ww, G.with D acc, C, δ4, k, δ5, eK, R6, e9, fun C7 H7 R7 s7 => ?_⟩
      cases k with
      | true =>
        refine iteT ?_
        simp only [if_true, Option.bind_eq_some_iff, Option.map_eq_some_iff] at e10
        obtain ⟨⟨r8, δ8⟩, e11, δ9, e12, ⟨zs', δz⟩, e13, e14⟩ := e10
        cases e14
        refine ⟨G.with D acc, C7, δ5, r8, δ8, eK, R7, e11, fun v C8 H8 R8 s8 k8 => ?_⟩
        obtain ⟨C9, R9, s9, k9⟩ := R8.toD k8
        obtain ⟨R10, hh10⟩ := R4.found hh4 R9
        have R11 : Rl G C9 H8 δ9 (wipe σ vs) := by
          have := R10.wipe e12
          rw [ww] at this
          exact this
        refine ⟨acc, hh10.at_, ?_, ?_⟩
        · have : i < xs.length := hi
          exact Nat.lt_of_lt_of_le (Nat.lt_of_le_of_lt hl hi) (line_le hlen)
        · have un9 := (unAll_spec e12).2.1
          have nh : ∀ j, ¬ Holds H8 δ9 (wipe σ vs) j D := fun j ⟨s, x1, x2, pz, x3, x4⟩ => by
            by_cases hj : j ∈ vs
            · rw [un9 j hj] at x1
              cases x1
              cases x2
            · rw [(unAll_spec e12).2.2.1 j hj] at x1
              rw [wipe_other hj] at x3
              refine hh10.h j ⟨s, x1, x2, pz, ?_, x4⟩
              have : (wipe τ vs)[j]? = (wipe σ vs)[j]? := by rw [ww]
              rw [wipe_other hj, wipe_other hj] at this
              rw [this]
              exact x3
          refine ⟨C9, δ9, acc ++ [v], accD ++ [r8.toD], zs', R11.relay hh10.at_ hh10.a hh10.g nh, ?_, ⟨upd_same, hh10.a, hh10.g, fun i hi => nh i (R11.holdsOf (keep_lst hh10.at_) hi)⟩, (ra.sub (((s4.trans s7).trans s8).trans s9)).append (.cons k9 .nil), un9, e13, ?_, ?_⟩
          · exact s3.trans (((s4.trans s7).trans s8).trans s9)
          · rw [ey, List.append_assoc]
            rfl
          · rw [List.length_append, List.length_singleton]
            omega
      | false =>
        refine iteF ?_
        rw [if_neg Bool.false_ne_true] at e10
        simp only [Option.bind_eq_some_iff] at e10
        obtain ⟨δ9, e12, e13⟩ := e10
        obtain ⟨R10, hh10⟩ := R4.found hh4 R7
        have R11 : Rl G C7 H7 δ9 (wipe σ vs) := by
          have := R10.wipe e12
          rw [ww] at this
          exact this
        have un9 := (unAll_spec e12).2.1
        have nh : ∀ j, ¬ Holds H7 δ9 (wipe σ vs) j D := fun j ⟨s, x1, x2, pz, x3, x4⟩ => by
          by_cases hj : j ∈ vs
          · rw [un9 j hj] at x1
            cases x1
            cases x2
          · rw [(unAll_spec e12).2.2.1 j hj] at x1
            rw [wipe_other hj] at x3
            refine hh10.h j ⟨s, x1, x2, pz, ?_, x4⟩
            have : (wipe τ vs)[j]? = (wipe σ vs)[j]? := by rw [ww]
            rw [wipe_other hj, wipe_other hj] at this
            rw [this]
            exact x3
        exact ⟨C7, δ9, acc, accD, zs, R11, s3.trans (s4.trans s7), ⟨hh10.at_, hh10.a, hh10.g, nh⟩, ra.sub (s4.trans s7), un9, e13, ey, by omega⟩
    · rintro H ⟨B, δ, acc, accD, zs, R3, s3, hh, ra, hun, e6, ey, hl⟩
      rw [List.drop_length] at e6
      unfold lcGo at e6
      split at e6
      · cases e6
        rw [List.append_nil] at ey
        subst ey
        have R4 := Rl.back R1 e2 s3 R3
        refine q _ B H R4 (s1.trans s3) ⟨D, acc, rfl, hh.at_, ra, hh.a, hh.g, fun i hi => ?_⟩
        exact hh.h i (back_holds R1 e2 R3 i D hi)
      · cases e6
  · cases e3
variable {elt tg iter : Expr} {ifs : List Expr} {scope : Scope} {own : List (Str × Nat)} {pos : Pos} {it : Ei} {g : TG} {t : Tg} {tt : Et} {te : Ev}
abbrev XTs (X : Cx) (ifs : List Expr) (f : Et) : Prop := PTs X ifs (kT X.K f)
theorem xts_nil : XTs X [] tYes := ⟨fun pins s σ H Q I h => pts_nil.run pins s σ H Q I (by
  obtain ⟨G, H0, δ, b, δ', eK, R, e, q⟩ := h
  cases e
  exact q _ _ R (Sub.refl _))⟩
theorem xts_one {c : Expr} {f : Et} (h : XT X c f) : XTs X [c] f := pts_one h
theorem x_lc (hc : X.calm = true) (hN : X.N.Nodup) (hi : XI X tg iter it) (ok : BlkOk X.N X.env.scope scope own) (gs : GS X.K g t) (hv : ∀ i ∈ t.slots, i ∈ own.map (·.2))
    (hg : ∀ (s : Shared) (H : Hp) (C : Addr) (cl : List (Str × Addr)) (fp : List Addr), PG (X.blk s H scope (compEnvC scope cl C X.env) fp) tg g) (ht : ∀ (s : Shared) (H : Hp) (C : Addr) (cl : List (Str × Addr)) (fp : List Addr), XTs (X.blk s H scope (compEnvC scope cl C X.env) fp) ifs tt)
    (he : ∀ (s : Shared) (H : Hp) (C : Addr) (cl : List (Str × Addr)) (fp : List Addr), XV (X.blk s H scope (compEnvC scope cl C X.env) fp) elt te) (hs : ∀ x, foldedSetIterable iter X.env x = pure x := by intro _; rfl) :
    XV X (.ListComp elt [⟨tg, iter, ifs, 0⟩] scope pos) (vLc (own.map (·.2)) it t tt te) := (pe_lc hc hN hi ok hg ht he hs).weak fun _ _ _ h => lc_read gs hv h
theorem xs_setLc {i : Nat} {y : Str} {py spos : Pos} (hc : X.calm = true) (hN : X.N.Nodup) (hy : X.N[i]? = some y) (hyl : X.env.scope.names.lookup y = some .local)
    (hsw : swapsWith (.ListComp elt [⟨tg, iter, ifs, 0⟩] scope pos) (some (.Name y py)) spos.line X.env = pure true) (hi : XI X tg iter it) (ok : BlkOk X.N X.env.scope scope own) (gs : GS X.K g t) (hv : ∀ i ∈ t.slots, i ∈ own.map (·.2))
    (hg : ∀ (s : Shared) (H : Hp) (C : Addr) (cl : List (Str × Addr)) (fp : List Addr), PG (X.blk s H scope (compEnvC scope cl C X.env) fp) tg g) (ht : ∀ (s : Shared) (H : Hp) (C : Addr) (cl : List (Str × Addr)) (fp : List Addr), XTs (X.blk s H scope (compEnvC scope cl C X.env) fp) ifs tt)
    (he : ∀ (s : Shared) (H : Hp) (C : Addr) (cl : List (Str × Addr)) (fp : List Addr), XV (X.blk s H scope (compEnvC scope cl C X.env) fp) elt te) (hs : ∀ x, foldedSetIterable iter X.env x = pure x := by intro _; rfl) :
    XS X (.Assign [.Name y py] (.ListComp elt [⟨tg, iter, ifs, 0⟩] scope pos) spos) (sSet i (vLc (own.map (·.2)) it t tt te)) :=
  (ps_setLc hc hN hy hyl hsw hi ok hg ht he hs).weak fun D σ H h => by
    have := set_read h
    exact lc_read gs hv (K := X.K) (by
      obtain ⟨G, H0, δ, r, δ', eK, R, e, q⟩ := this
      exact ⟨G, H0, δ, r, δ', eK, R, e, q⟩)
end
end IP
end
section
set_option Elab.async false
set_option linter.all false
set_option maxRecDepth 100000
set_option maxHeartbeats 4000000
/-! tuple * int, any int. -/
namespace L2
open PySem PySem.Spec PyProof.Rows
theorem tuple_mulS (l : Addr) (items : Array Value) (n : Nat) (dd : Option Addr) (sl : Array (Option Value)) (x : Int) (u : Tok) (c0 : (decide (x < -(2 ^ 63)) || decide (x ≥ 2 ^ 63)) = false) (c1 : (items.isEmpty || x == 1) = true) :
    Meets (Builtin.«tuple.__mul__» ⟨[.ref l, .int x u], []⟩) (fun _ R s => s.heap.get? l = some { cls := .type "tuple", dict := dd, data := .seq items n, slots := sl } ∧
      R (.ok (.ret (Value.ref l))) s) :=
  .of_wp fun prog w A R s h => by
    obtain ⟨hp, g, d, tk, os⟩ := s
    obtain ⟨hl, h⟩ := h
    have f1 := AutoSeq1.idx_int
    wp_walk using wpAny_loadPart' hl
    repeat (first
      | (refine wpAny_ite_false (decide_eq_false (by rw [c0]; exact Bool.false_ne_true)) ?_; wp_walk using wpAny_loadPart' hl)
      | (refine wpAny_ite_true (decide_eq_true c1) ?_; wp_walk using wpAny_loadPart' hl))
    exact ⟨_, rfl, h⟩
theorem tuple_mul0 (l : Addr) (items : Array Value) (n : Nat) (dd : Option Addr) (sl : Array (Option Value)) (x : Int) (u : Tok) (c0 : (decide (x < -(2 ^ 63)) || decide (x ≥ 2 ^ 63)) = false) (c1 : (items.isEmpty || x == 1) = false) (c2 : (decide (x ≤ 0) || items.isEmpty) = true) :
    Meets (Builtin.«tuple.__mul__» ⟨[.ref l, .int x u], []⟩) (fun _ R s => s.heap.get? l = some { cls := .type "tuple", dict := dd, data := .seq items n, slots := sl } ∧
      R (.ok (.ret (Value.ref s.heap.objs.size))) { s with heap := s.heap.push { cls := Value.type "tuple", data := Data.seq #[] }, toks := s.toks }) :=
  .of_wp fun prog w A R s h => by
    obtain ⟨hp, g, d, tk, os⟩ := s
    obtain ⟨hl, h⟩ := h
    have f1 := AutoSeq1.idx_int
    wp_walk using wpAny_loadPart' hl
    repeat (first
      | (refine wpAny_ite_false (decide_eq_false (by rw [c0]; exact Bool.false_ne_true)) ?_; wp_walk using wpAny_loadPart' hl)
      | (refine wpAny_ite_false (decide_eq_false (by rw [c1]; exact Bool.false_ne_true)) ?_; wp_walk using wpAny_loadPart' hl)
      | (refine wpAny_ite_true (decide_eq_true c2) ?_; wp_walk using wpAny_loadPart' hl))
    exact ⟨_, rfl, h⟩
/-- t * k: t itself (empty, or k = 1), or a new tuple -/
def rRepA (K : PySem.W.Frag) : R2 := fun x y H Q => ∃ l k xs, x = .ref l ∧ y = .int k ∧ SqT K H l xs ∧ -(2 ^ 62) ≤ k ∧ k ≤ 2 ^ 62 ∧ xs.length * k.toNat ≤ sizeLine ∧ (xs = [] ∨ k = 1 → Q (.ref l) H) ∧
  (¬ (xs = [] ∨ k = 1) → ∀ p, H p = none → Q (.ref p) (upd H p (.tup (List.replicate k.toNat xs).flatten)))
section
variable {X : Cx}
theorem op_repA : OpR X (binaryOp .Mult) (rRepA X.K) := by
  intro pins s σ H x y v u Q I rx ry h
  obtain ⟨l, k, xs, rfl, rfl, hT, h1, h2, hz, q1, q2⟩ := h
  cases rx
  obtain ⟨t, rfl⟩ := ry
  obtain ⟨its, r, ⟨⟨cls, dd, data, sl⟩, ho, hc, n, hd⟩, hs⟩ := I.tuple hT
  simp only at hc hd
  subst hc hd
  have hle : its.length = xs.length := r.length.symm
  have hsz0 : its.toArray.size = xs.length := by rw [List.size_toArray, hle]
  have c0 : (decide (k < -(2 ^ 63)) || decide (k ≥ 2 ^ 63)) = false := by
    rw [decide_eq_false (by omega), decide_eq_false (by omega)] <;> rfl
  by_cases same : xs = [] ∨ k = 1
  · have c1 : (its.toArray.isEmpty || k == 1) = true := by
      rcases same with e | e
      · have : its = [] := List.eq_nil_of_length_eq_zero (by rw [hle, e]; rfl)
        rw [this]
        rfl
      · rw [e]
        simp
    refine wpAny_binaryOp_repeat_ref (T := "tuple") (U := "int") (by decide) ⟨_, ho, rfl⟩ (fun s' => typeIs_int s' k t) noFill_tuple_mul F.fills_int_mul F.slot_int_rmul repeat_tuple F.slot_int_index.lookup
      (call_meets F.slot_int_rmul (typeIs_int s k t) F.entry_int_rmul (F.args_int_rmul_2 _ _) (int_rmul_tuple k t l its.toArray n dd sl)
        ⟨ho, rfl, ⟨_, ho, rfl⟩, call_meets F.slot_tuple_mul ⟨_, ho, rfl⟩ F.entry_tuple_mul (F.args_tuple_mul_2 _ _) (tuple_mulS l its.toArray n dd sl k t c0 c1) ⟨ho, ?_⟩⟩)
    exact ⟨.ref l, H, I, rfl, q1 same⟩
  · have hne : xs ≠ [] := fun e => same (.inl e)
    have hn : its ≠ [] := fun e => hne (by
      rw [e] at hle
      exact List.eq_nil_of_length_eq_zero hle.symm)
    have hi : its.toArray.isEmpty = false := by
      cases its with
      | nil => exact absurd rfl hn
      | cons a b => rfl
    have c1 : (its.toArray.isEmpty || k == 1) = false := by
      rw [hi, Bool.false_or]
      exact beq_eq_false_iff_ne.mpr (fun e => same (.inr e))
    by_cases hk : k ≤ 0
    · have c2 : (decide (k ≤ 0) || its.toArray.isEmpty) = true := by
        rw [decide_eq_true hk] <;> rfl
      refine wpAny_binaryOp_repeat_ref (T := "tuple") (U := "int") (by decide) ⟨_, ho, rfl⟩ (fun s' => typeIs_int s' k t) noFill_tuple_mul F.fills_int_mul F.slot_int_rmul repeat_tuple F.slot_int_index.lookup
        (call_meets F.slot_int_rmul (typeIs_int s k t) F.entry_int_rmul (F.args_int_rmul_2 _ _) (int_rmul_tuple k t l its.toArray n dd sl)
          ⟨ho, rfl, ⟨_, ho, rfl⟩, call_meets F.slot_tuple_mul ⟨_, ho, rfl⟩ F.entry_tuple_mul (F.args_tuple_mul_2 _ _) (tuple_mul0 l its.toArray n dd sl k t c0 c1 c2) ⟨ho, ?_⟩⟩)
      have e0 : (List.replicate k.toNat xs).flatten = [] := by
        have : k.toNat = 0 := by omega
        rw [this]
        rfl
      refine ⟨.ref s.heap.objs.size, _, I.laid (t' := s.toks) (o := .tup []) (fun b ob q => Heap.get?_push_of_some _ q) (Nat.le_refl _) ?_, rfl, ?_⟩
      · exact ⟨Nat.zero_le _, [], .nil, IsTup.new _ _⟩
      · have := q2 same _ (I.hok.fresh (Nat.le_refl _))
        rw [e0] at this
        exact this
    · have kp : 0 < k := by omega
      have hnat : its.toArray.size * k.toNat ≤ sizeLine := by rw [hsz0]; exact hz
      have hint : ((its.toArray.size : Nat) : Int) * k = ((its.toArray.size * k.toNat : Nat) : Int) := by
        rw [Int.natCast_mul, Int.toNat_of_nonneg (by omega)]
      have sl0 : sizeLine = 16777216 := sizeLine_eq
      have flen : (List.replicate k.toNat its).flatten.length ≤ sizeLine := by
        rw [PyProof.Rows.lm_len_rep_flat, hle, Nat.mul_comm]
        exact hz
      have c2 : (decide (k ≤ 0) || its.toArray.isEmpty) = false := by
        rw [hi, Bool.or_false]
        exact decide_eq_false (by omega)
      have c4 : Builtin.Tuple.tupleTooMany (((its.toArray.size : Nat) : Int) * k) = false := by
        unfold Builtin.Tuple.tupleTooMany
        rw [hint]
        exact decide_eq_false (by omega)
      refine wpAny_binaryOp_repeat_ref (T := "tuple") (U := "int") (by decide) ⟨_, ho, rfl⟩ (fun s' => typeIs_int s' k t) noFill_tuple_mul F.fills_int_mul F.slot_int_rmul repeat_tuple F.slot_int_index.lookup
        (call_meets F.slot_int_rmul (typeIs_int s k t) F.entry_int_rmul (F.args_int_rmul_2 _ _) (int_rmul_tuple k t l its.toArray n dd sl)
          ⟨ho, rfl, ⟨_, ho, rfl⟩, call_meets F.slot_tuple_mul ⟨_, ho, rfl⟩ F.entry_tuple_mul (F.args_tuple_mul_2 _ _) (tuple_mulW l its.toArray n dd sl k t c0 c1 c2 (by rw [hint]; omega) c4 (by rw [size_rep, List.size_toArray]; exact flen)) ⟨ho, ?_⟩⟩)
      rw [size_rep]
      refine ⟨.ref s.heap.objs.size, _, I.laid (t' := s.toks) (o := .tup (List.replicate k.toNat xs).flatten) (fun b ob q => Heap.get?_push_of_some _ q) (Nat.le_refl _) ?_, rfl, q2 same _ (I.hok.fresh (Nat.le_refl _))⟩
      exact ⟨by rw [PyProof.Rows.lm_len_rep_flat, Nat.mul_comm]; exact hz, _, r.rep k.toNat, IsTup.new _ _⟩
end
end L2
end
section
set_option Elab.async false
set_option linter.all false
set_option maxRecDepth 100000
set_option maxHeartbeats 2000000
namespace IP
open PySem L2
/-! ### the operators -/
section
variable {X : Cx} {K : PySem.W.Frag}
theorem relT_int {H0 H : Hp} {v : V} {i : Int} (h : RelT K H0 H v (.int i)) : v = .int i := by
  rcases h with h | ⟨_, _, _, h, _⟩
  · cases h
    rfl
  · cases h
theorem relT_bool {H0 H : Hp} {v : V} {i : Bool} (h : RelT K H0 H v (.bool i)) : v = .bl i := by
  rcases h with h | ⟨_, _, _, h, _⟩
  · cases h
    rfl
  · cases h
theorem relT_list {H0 H : Hp} {v : V} {ds : List D} (s : Sub H0 H) (h : RelT K H0 H v (.list ds)) : ∃ p xs, v = .ref p ∧ H p = some (.lst xs) ∧ RelAll K H0 xs ds := by
  rcases h with h | ⟨_, _, _, e, h⟩
  · cases h with
    | lst h1 h2 => exact ⟨_, _, rfl, s _ _ h1, h2⟩
  · cases e
    exact ⟨_, _, h⟩
theorem relT_tup {H0 H : Hp} {v : V} {ds : List D} (h : RelT K H0 H v (.tuple ds)) : ∃ p xs, v = .ref p ∧ H0 p = some (.tup xs) ∧ RelAll K H0 xs ds := by
  rcases h with h | ⟨_, _, _, e, h⟩
  · cases h with
    | tup h1 h2 => exact ⟨_, _, rfl, h1, h2⟩
  · cases e
theorem relT_scr {H0 H : Hp} {v : V} {xs : List D} (h : RelT K H0 H v (.dict [(.none, .tuple xs)])) : ∃ (p : Addr) (ns : List Int), v = .ref p ∧ SqL K H0 p (ns.map V.int) ∧ xs = ns.map PyData.int := by
  rcases h with h | ⟨_, _, _, e, h⟩
  · generalize e : (PyData.dict [(.none, .tuple xs)]) = d at h
    cases h with
    | scr h1 =>
      unfold IP.scr at e
      injection e with e
      injection e with e _
      injection e with _ e
      injection e with e
      exact ⟨_, _, rfl, h1, e⟩
    | dck h1 h2 =>
      cases e
      cases h2
    | dct h1 h2 =>
      cases e
      cases h2
    | _ => cases e
  · cases e
theorem s_int {op : D → D → Option Res} {C : Int → Int → Prop} {f : Int → Int → Int} (h : ∀ a b res, op a b = some res → ∃ i j, a = .int i ∧ b = .int j ∧ C i j ∧ res = .dat (.int (f i j))) : OpS K (rI C fun i j => .int (f i j)) op := by
  intro G H0 H δ σ x y dx dy res eK R rx ry e Q q
  obtain ⟨i, j, rfl, rfl, c, rfl⟩ := h _ _ _ e
  obtain rfl := relT_int rx
  obtain rfl := relT_int ry
  exact ⟨i, j, rfl, rfl, c, q _ _ _ R (Sub.refl _) (.int _)⟩
theorem s_cmp {op : D → D → Option Res} {f : Int → Int → Bool} (h : ∀ a b res, op a b = some res → ∃ i j, a = .int i ∧ b = .int j ∧ res = .dat (.bool (f i j))) : OpS K (rI0 fun i j => .bl (f i j)) op := by
  intro G H0 H δ σ x y dx dy res eK R rx ry e Q q
  obtain ⟨i, j, rfl, rfl, rfl⟩ := h _ _ _ e
  obtain rfl := relT_int rx
  obtain rfl := relT_int ry
  exact ⟨i, j, rfl, rfl, q _ _ _ R (Sub.refl _) (.bl _)⟩
theorem s_sub : OpS K (rI0 fun i j => .int (i - j)) bSub := by
  intro G H0 H δ σ x y dx dy res eK R rx ry e Q q
  cases dx <;> cases dy <;> simp only [bSub, reduceCtorEq, Option.some.injEq] at e
  subst e
  obtain rfl := relT_int rx
  obtain rfl := relT_int ry
  exact ⟨_, _, rfl, rfl, q _ _ _ R (Sub.refl _) (.int _)⟩
theorem s_lt : OpS K (rI0 fun i j => .bl (decide (i < j))) bLt := s_cmp fun a b res e => by
  cases a <;> cases b <;> simp only [bLt, reduceCtorEq, Option.some.injEq] at e
  exact ⟨_, _, rfl, rfl, e.symm⟩
theorem s_le : OpS K (rI0 fun i j => .bl (decide (i ≤ j))) bLe := s_cmp fun a b res e => by
  cases a <;> cases b <;> simp only [bLe, reduceCtorEq, Option.some.injEq] at e
  exact ⟨_, _, rfl, rfl, e.symm⟩
theorem s_gt : OpS K (rI0 fun i j => .bl (decide (j < i))) bGt := s_cmp fun a b res e => by
  cases a <;> cases b <;> simp only [bGt, reduceCtorEq, Option.some.injEq] at e
  exact ⟨_, _, rfl, rfl, e.symm⟩
theorem s_ge : OpS K (rI0 fun i j => .bl (decide (j ≤ i))) bGe := s_cmp fun a b res e => by
  cases a <;> cases b <;> simp only [bGe, reduceCtorEq, Option.some.injEq] at e
  exact ⟨_, _, rfl, rfl, e.symm⟩
theorem s_mod : OpS K (rI (fun _ j => 0 < j) fun i j => .int (i % j)) bMod := s_int fun a b res e => by
  cases a <;> cases b <;> simp only [bMod, reduceCtorEq, Option.some.injEq] at e
  split at e
  · rename_i h
    cases e
    exact ⟨_, _, rfl, rfl, h, rfl⟩
  · cases e
theorem s_pow : OpS K (rI CPow fun i j => .int (i ^ j.toNat)) bPow := s_int fun a b res e => by
  cases a <;> cases b <;> simp only [bPow, reduceCtorEq, Option.some.injEq] at e
  split at e
  · rename_i h
    cases e
    exact ⟨_, _, rfl, rfl, h, rfl⟩
  · cases e
theorem s_shr : OpS K (rI (fun _ j => 0 ≤ j) fun i j => .int (i / 2 ^ j.toNat)) bShr := s_int fun a b res e => by
  cases a <;> cases b <;> simp only [bShr, reduceCtorEq, Option.some.injEq] at e
  split at e
  · rename_i h
    cases e
    exact ⟨_, _, rfl, rfl, h, rfl⟩
  · cases e
theorem or_cases {r r' : R2} {x y : V} {H : Hp} {Q : VK} (h : r x y H Q ∨ r' x y H Q) : (fun x y H Q => r x y H Q ∨ r' x y H Q : R2) x y H Q := h
abbrev rFdiv : R2 := fun x y H Q => (rI CDiv fun i j => .int (i / j)) x y H Q ∨ (rI CDivW fun i j => .int (i / j)) x y H Q
theorem op_fdivA : OpR X (binaryOp .FloorDiv) rFdiv := op_fdiv.or op_fdivW
theorem s_fdiv : OpS K rFdiv bFdiv := by
  intro G H0 H δ σ x y dx dy res eK R rx ry e Q q
  cases dx <;> cases dy <;> simp only [bFdiv, reduceCtorEq] at e
  split at e
  · rename_i h
    cases e
    obtain rfl := relT_int rx
    obtain rfl := relT_int ry
    rcases h with ⟨h1, h2 | h2⟩
    · exact .inl ⟨_, _, rfl, rfl, ⟨h1, h2⟩, q _ _ _ R (Sub.refl _) (.int _)⟩
    · exact .inr ⟨_, _, rfl, rfl, ⟨h1, h2⟩, q _ _ _ R (Sub.refl _) (.int _)⟩
  · cases e
abbrev rAddA (K : PySem.W.Frag) : R2 := fun x y H Q => (rI0 fun i j => .int (i + j)) x y H Q ∨ (fun x y H Q => rCatA K x y H Q ∨ rCat x y H Q) x y H Q
theorem op_addA : OpR X (binaryOp .Add) (rAddA X.K) := op_add.or (op_catA.or op_cat)
theorem s_add : OpS K (rAddA K) bAdd := by
  intro G H0 H δ σ x y dx dy res eK R rx ry e Q q
  subst eK
  cases dx <;> cases dy <;> simp only [bAdd, reduceCtorEq] at e
  · cases e
    obtain rfl := relT_int rx
    obtain rfl := relT_int ry
    exact .inl ⟨_, _, rfl, rfl, q _ _ _ R (Sub.refl _) (.int _)⟩
  · split at e
    · rename_i h
      cases e
      obtain ⟨p, xs, rfl, h1, h2⟩ := relT_list R.sub rx
      obtain ⟨p', ys, rfl, h3, h4⟩ := relT_list R.sub ry
      refine .inr (.inr ⟨p, p', xs, ys, rfl, rfl, h1, h3, line_le (by rw [h2.length, h4.length]; exact h), fun z hz => ?_⟩)
      have f := R.freshI hz
      exact q _ _ _ (R.laid hz) (Sub.refl _) ⟨z, _, rfl, upd_same, h2.append h4, f.1, f.2.1, f.2.2⟩
    · cases e
  · split at e
    · rename_i h
      cases e
      obtain ⟨p, xs, rfl, h1, h2⟩ := relT_tup rx
      obtain ⟨p', ys, rfl, h3, h4⟩ := relT_tup ry
      refine .inr (.inl ⟨p, p', xs, ys, rfl, rfl, SqT.of (R.sub _ _ h1), SqT.of (R.sub _ _ h3), line_le (by rw [h2.length, h4.length]; exact h), fun z => ?_, fun _ z => ?_, fun _ _ z hz => ?_⟩)
      · subst z
        refine q _ _ _ R (Sub.refl _) ?_
        cases h2
        exact .tup h3 h4
      · subst z
        refine q _ _ _ R (Sub.refl _) ?_
        cases h4
        show Rel G.K H0 (.ref p) (.tuple (_ ++ []))
        rw [List.append_nil]
        exact .tup h1 h2
      · obtain ⟨R4, s4⟩ := R.laid0 (o := .tup (xs ++ ys)) hz
        exact q _ _ _ R4 s4 (.tup upd_same ((h2.append h4).sub s4))
    · cases e
abbrev rMulA (K : PySem.W.Frag) : R2 := fun x y H Q => (fun x y H Q => (rI CMul fun i j => .int (i * j)) x y H Q ∨ (rI CMulW fun i j => .int (i * j)) x y H Q) x y H Q ∨ (fun x y H Q => rRep x y H Q ∨ rRepA K x y H Q) x y H Q
theorem op_mulA : OpR X (binaryOp .Mult) (rMulA X.K) := (op_mul.or op_mulW).or (op_rep.or op_repA)
theorem s_mul : OpS K (rMulA K) bMul := by
  intro G H0 H δ σ x y dx dy res eK R rx ry e Q q
  subst eK
  cases dx <;> cases dy <;> simp only [bMul, reduceCtorEq] at e
  · split at e
    · rename_i h
      cases e
      obtain rfl := relT_int rx
      obtain rfl := relT_int ry
      rcases h with h | h
      · exact .inl (.inl ⟨_, _, rfl, rfl, h, q _ _ _ R (Sub.refl _) (.int _)⟩)
      · exact .inl (.inr ⟨_, _, rfl, rfl, h, q _ _ _ R (Sub.refl _) (.int _)⟩)
    · cases e
  · split at e
    · rename_i h
      cases e
      obtain ⟨p, xs, rfl, h1, h2⟩ := relT_list R.sub rx
      obtain rfl := relT_int ry
      refine .inr (.inl ⟨p, _, xs, rfl, rfl, h1, h.1, h.2.1, line_le (by rw [h2.length]; exact h.2.2), fun z hz => ?_⟩)
      have f := R.freshI hz
      exact q _ _ _ (R.laid hz) (Sub.refl _) ⟨z, _, rfl, upd_same, h2.rep _, f.1, f.2.1, f.2.2⟩
    · cases e
  · split at e
    · rename_i h
      cases e
      obtain ⟨p, xs, rfl, h1, h2⟩ := relT_tup rx
      obtain rfl := relT_int ry
      refine .inr (.inr ⟨p, _, xs, rfl, rfl, SqT.of (R.sub _ _ h1), h.1, h.2.1, line_le (by rw [h2.length]; exact h.2.2), fun hw => ?_, fun _ z hz => ?_⟩)
      · refine q _ _ _ R (Sub.refl _) ?_
        rcases hw with z | z
        · subst z
          cases h2
          show Rel G.K H0 (.ref p) (.tuple _)
          simp only [List.flatten_replicate_nil]
          exact .tup h1 .nil
        · subst z
          show Rel G.K H0 (.ref p) (.tuple _)
          have e1 : (1 : Int).toNat = 1 := rfl
          rw [e1, List.replicate_one, List.flatten_singleton]
          exact .tup h1 h2
      · obtain ⟨R4, s4⟩ := R.laid0 hz
        exact q _ _ _ R4 s4 (.tup upd_same ((h2.rep _).sub s4))
    · cases e
/-- equality of data -/
theorem relT_dp {H0 H : Hp} {v : V} {d : D} (s : Sub H0 H) (h : RelT K H0 H v d) (hs : SeqAt.shaped d = true) : Dp K H v d := by
  rcases h with h | ⟨p, xs, ds, rfl, rfl, h1, h2⟩
  · exact (h.sub s).dp hs
  · exact (Rel.lst h1 (h2.sub s)).dp hs
theorem s_eq : OpS K (rEqD K) bEq := by
  intro G H0 H δ σ x y dx dy res eK R rx ry e Q q
  subst eK
  unfold bEq at e
  split at e
  · rename_i h
    cases e
    exact ⟨dx, dy, relT_dp R.sub rx h.1, relT_dp R.sub ry h.2, h.1, h.2, q _ _ _ R (Sub.refl _) (.bl _)⟩
  · cases e
theorem s_ne : OpS K (rNeD K) bNe := by
  intro G H0 H δ σ x y dx dy res eK R rx ry e Q q
  subst eK
  unfold bNe at e
  split at e
  · rename_i h
    cases e
    exact ⟨dx, dy, relT_dp R.sub rx h.1, relT_dp R.sub ry h.2, h.1, h.2, q _ _ _ R (Sub.refl _) (.bl _)⟩
  · cases e
/-- items -/
theorem atD_rel {H0 : Hp} {xs : List V} {ds : List D} {i : Int} {d : D} (r : RelAll K H0 xs ds) (e : atD ds i = some d) : ∃ v, atI xs i = some v ∧ Rel K H0 v d := by
  unfold atD at e
  simp only [Option.bind_eq_some_iff] at e
  obtain ⟨j, e1, e2⟩ := e
  obtain ⟨v, h1, h2⟩ := r.get e2
  refine ⟨v, ?_, h2⟩
  unfold atI
  rw [r.length]
  have e1' : L2.ixN ds.length i = some j := e1
  rw [e1']
  exact h1
abbrev rIxA (K : PySem.W.Frag) : R2 := fun x y H Q => rIxL K x y H Q ∨ rIxT K x y H Q
theorem ix_any : IxR X (rIxA X.K) := ix_list.or ix_tup
theorem s_ix : OpS K (rIxA K) bIx := by
  intro G H0 H δ σ x y dx dy res eK R rx ry e Q q
  subst eK
  have lst : ∀ ds i, dx = .list ds → dy = .int i → (atD ds i).map Res.dat = some res → rIxA G.K x y H Q := by
    rintro ds i rfl rfl e
    simp only [Option.map_eq_some_iff] at e
    obtain ⟨d, e1, rfl⟩ := e
    obtain ⟨p, xs, rfl, h1, h2⟩ := relT_list R.sub rx
    obtain rfl := relT_int ry
    obtain ⟨v, h3, h4⟩ := atD_rel h2 e1
    exact .inl ⟨p, xs, i, v, rfl, rfl, SqL.of h1, h3, q _ _ _ R (Sub.refl _) h4⟩
  have tup : ∀ ds i, dx = .tuple ds → dy = .int i → (atD ds i).map Res.dat = some res → rIxA G.K x y H Q := by
    rintro ds i rfl rfl e
    simp only [Option.map_eq_some_iff] at e
    obtain ⟨d, e1, rfl⟩ := e
    obtain ⟨p, xs, rfl, h1, h2⟩ := relT_tup rx
    obtain rfl := relT_int ry
    obtain ⟨v, h3, h4⟩ := atD_rel h2 e1
    exact .inr ⟨p, xs, i, v, rfl, rfl, SqT.of (R.sub _ _ h1), h3, q _ _ _ R (Sub.refl _) h4⟩
  unfold bIx at e
  split at e
  · exact lst _ _ rfl rfl e
  · exact tup _ _ rfl rfl e
  · simp only [Option.map_eq_some_iff] at e
    obtain ⟨d, e1, rfl⟩ := e
    obtain ⟨p, ns, rfl, h1, rfl⟩ := relT_scr rx
    obtain rfl := relT_int ry
    obtain ⟨v, h3, h4⟩ := atD_rel (K := G.K) (H0 := H0) relAll_ints e1
    exact .inl ⟨p, _, _, v, rfl, rfl, SqL.sub R.sub h1, h3, q _ _ _ R (Sub.refl _) h4⟩
  · cases e
theorem s_neg : UnS K (rU fun i => .int (-i)) uNeg := by
  intro G H0 H δ σ x dx res eK R rx e Q q
  cases dx <;> simp only [uNeg, reduceCtorEq, Option.some.injEq] at e
  subst e
  obtain rfl := relT_int rx
  exact ⟨_, rfl, q _ _ _ R (Sub.refl _) (.int _)⟩
/-- is None -/
theorem isNone_eq {H0 H : Hp} {v : V} {d : D} (h : RelT K H0 H v d) : decide (v = .non) = isNone d := by
  rcases h with h | ⟨p, xs, ds, rfl, rfl, _⟩
  · cases h <;> simp [isNone, IP.scr, clo]
  · simp [isNone]
variable {a : Expr} {f : Eo} {pos : Pos}
theorem x_isN {j pos'} (ha : XO X a f) : XV X (.Compare a [.Is] [.Constant .none j pos'] pos) (fUn uIsN f) := (pe_cmp (pc_isN ha)).weak fun σ H Q ⟨G, H0, δ, res, δ', eK, R, e, q⟩ => by
  simp only [fUn, uIsN, Option.bind_eq_some_iff, Option.map_eq_some_iff] at e
  obtain ⟨⟨o1, δ1⟩, e1, dx, e3, r', e5, e6⟩ := e
  cases e5
  cases e6
  refine ⟨G, H0, δ, o1, δ1, eK, R, e1, fun v H0' H' R1 s1 k1 => ?_⟩
  dsimp only
  rw [isNone_eq (R1.rd k1 e3)]
  exact q _ _ _ R1 s1 (.bl _)
theorem x_notN {j pos'} (ha : XO X a f) : XV X (.Compare a [.IsNot] [.Constant .none j pos'] pos) (fUn uNotN f) := (pe_cmp (pc_notN ha)).weak fun σ H Q ⟨G, H0, δ, res, δ', eK, R, e, q⟩ => by
  simp only [fUn, uNotN, Option.bind_eq_some_iff, Option.map_eq_some_iff] at e
  obtain ⟨⟨o1, δ1⟩, e1, dx, e3, r', e5, e6⟩ := e
  cases e5
  cases e6
  refine ⟨G, H0, δ, o1, δ1, eK, R, e1, fun v H0' H' R1 s1 k1 => ?_⟩
  dsimp only
  rw [isNone_eq (R1.rd k1 e3)]
  exact q _ _ _ R1 s1 (.bl _)
/-- a bool as a test, where isTrue goes by the value -/
theorem tB_read {f : Ev} {σ : L2.St} {H : Hp} {Q : Bool → Hp → Prop} (h : kT K (tB f) σ H Q) : L2.tB (kE K f) σ H Q := by
  obtain ⟨G, H0, δ, res, δ', eK, R, e, q⟩ := h
  simp only [IP.tB, Option.bind_eq_some_iff] at e
  obtain ⟨⟨r1, δ1⟩, e1, e2⟩ := e
  refine ⟨G, H0, δ, r1, δ1, eK, R, e1, fun v H0' H' R1 s1 k1 => ?_⟩
  cases r1 with
  | new ds => cases e2
  | newD _ _ => cases e2
  | dat d =>
    cases d with
    | bool k =>
      cases e2
      cases k1
      exact ⟨_, rfl, q _ _ R1 s1⟩
    | _ => cases e2
theorem x_isNT {j pos'} (ha : XO X a f) : XT X (.Compare a [.Is] [.Constant .none j pos'] pos) (tB (fUn uIsN f)) := (pt_cmp (pc_isN ha)).weak fun σ H Q h => by
  have := tB_read h
  obtain ⟨G, H0, δ, res, δ', eK, R, e, q⟩ := this
  simp only [fUn, uIsN, Option.bind_eq_some_iff, Option.map_eq_some_iff] at e
  obtain ⟨⟨o1, δ1⟩, e1, dx, e3, r', e5, e6⟩ := e
  cases e5
  cases e6
  refine ⟨G, H0, δ, o1, δ1, eK, R, e1, fun v H0' H' R1 s1 k1 => ?_⟩
  dsimp only
  rw [isNone_eq (R1.rd k1 e3)]
  exact q _ _ _ R1 s1 (.bl _)
theorem x_notNT {j pos'} (ha : XO X a f) : XT X (.Compare a [.IsNot] [.Constant .none j pos'] pos) (tB (fUn uNotN f)) := (pt_cmp (pc_notN ha)).weak fun σ H Q h => by
  have := tB_read h
  obtain ⟨G, H0, δ, res, δ', eK, R, e, q⟩ := this
  simp only [fUn, uNotN, Option.bind_eq_some_iff, Option.map_eq_some_iff] at e
  obtain ⟨⟨o1, δ1⟩, e1, dx, e3, r', e5, e6⟩ := e
  cases e5
  cases e6
  refine ⟨G, H0, δ, o1, δ1, eK, R, e1, fun v H0' H' R1 s1 k1 => ?_⟩
  dsimp only
  rw [isNone_eq (R1.rd k1 e3)]
  exact q _ _ _ R1 s1 (.bl _)
theorem x_notV {A : Ev} (ha : XV X a A) : XV X (.UnaryOp .Not a pos) (vNot A) := (pe_not ha).weak fun σ H Q ⟨G, H0, δ, res, δ', eK, R, e, q⟩ => by
  simp only [vNot, Option.bind_eq_some_iff] at e
  obtain ⟨⟨t, δ1⟩, e1, e2⟩ := e
  refine ⟨G, H0, δ, t, δ1, eK, R, e1, fun v H0' H' R1 s1 k1 => ?_⟩
  cases t with
  | new _ => cases e2
  | newD _ _ => cases e2
  | dat d =>
    cases d with
    | bool t =>
      cases e2
      cases k1
      exact ⟨t, rfl, q _ _ _ R1 s1 (.bl _)⟩
    | _ => cases e2
end
end IP
end
section
set_option Elab.async false
set_option linter.all false
set_option maxRecDepth 100000
set_option maxHeartbeats 400000
namespace IP
open PySem L2
section
variable {X : Cx} {K : PySem.W.Frag} {a : Expr} {f : Eo} {pos : Pos}
/-! ### isinstance -/
def tyS : Ty → String
  | .int => "int"
  | .bool => "bool"
  | .str => "str"
  | .list => "list"
  | .tuple => "tuple"
def tyOfD : D → String
  | .none => "NoneType"
  | .bool _ => "bool"
  | .int _ => "int"
  | .str _ => "str"
  | .list _ => "list"
  | .tuple _ => "tuple"
  | .dict _ => "dict"
theorem kB_dict_int : kitB "dict" "int" = some false := by decide +kernel
theorem kB_dict_bool : kitB "dict" "bool" = some false := by decide +kernel
theorem kB_dict_str : kitB "dict" "str" = some false := by decide +kernel
theorem kB_dict_list : kitB "dict" "list" = some false := by decide +kernel
theorem kB_dict_tuple : kitB "dict" "tuple" = some false := by decide +kernel
theorem kB_none_int : kitB "NoneType" "int" = some false := by decide +kernel
theorem kB_none_bool : kitB "NoneType" "bool" = some false := by decide +kernel
theorem kB_none_str : kitB "NoneType" "str" = some false := by decide +kernel
theorem kB_none_list : kitB "NoneType" "list" = some false := by decide +kernel
theorem kB_none_tuple : kitB "NoneType" "tuple" = some false := by decide +kernel
theorem kB_bool_int : kitB "bool" "int" = some true := by decide +kernel
theorem kB_bool_bool : kitB "bool" "bool" = some true := by decide +kernel
theorem kB_bool_str : kitB "bool" "str" = some false := by decide +kernel
theorem kB_bool_list : kitB "bool" "list" = some false := by decide +kernel
theorem kB_bool_tuple : kitB "bool" "tuple" = some false := by decide +kernel
theorem kB_int_int : kitB "int" "int" = some true := by decide +kernel
theorem kB_int_bool : kitB "int" "bool" = some false := by decide +kernel
theorem kB_int_str : kitB "int" "str" = some false := by decide +kernel
theorem kB_int_list : kitB "int" "list" = some false := by decide +kernel
theorem kB_int_tuple : kitB "int" "tuple" = some false := by decide +kernel
theorem kB_str_int : kitB "str" "int" = some false := by decide +kernel
theorem kB_str_bool : kitB "str" "bool" = some false := by decide +kernel
theorem kB_str_str : kitB "str" "str" = some true := by decide +kernel
theorem kB_str_list : kitB "str" "list" = some false := by decide +kernel
theorem kB_str_tuple : kitB "str" "tuple" = some false := by decide +kernel
theorem kB_list_int : kitB "list" "int" = some false := by decide +kernel
theorem kB_list_bool : kitB "list" "bool" = some false := by decide +kernel
theorem kB_list_str : kitB "list" "str" = some false := by decide +kernel
theorem kB_list_list : kitB "list" "list" = some true := by decide +kernel
theorem kB_list_tuple : kitB "list" "tuple" = some false := by decide +kernel
theorem kB_tuple_int : kitB "tuple" "int" = some false := by decide +kernel
theorem kB_tuple_bool : kitB "tuple" "bool" = some false := by decide +kernel
theorem kB_tuple_str : kitB "tuple" "str" = some false := by decide +kernel
theorem kB_tuple_list : kitB "tuple" "list" = some false := by decide +kernel
theorem kB_tuple_tuple : kitB "tuple" "tuple" = some true := by decide +kernel
theorem kit_d : ∀ {t : Ty} {d : D} {b : Bool}, isTy t d = some b → kitB (tyOfD d) (tyS t) = some b
  | .int, .none, b, e => by
    cases e
    exact kB_none_int
  | .bool, .none, b, e => by
    cases e
    exact kB_none_bool
  | .str, .none, b, e => by
    cases e
    exact kB_none_str
  | .list, .none, b, e => by
    cases e
    exact kB_none_list
  | .tuple, .none, b, e => by
    cases e
    exact kB_none_tuple
  | .int, .bool _, b, e => by
    cases e
    exact kB_bool_int
  | .bool, .bool _, b, e => by
    cases e
    exact kB_bool_bool
  | .str, .bool _, b, e => by
    cases e
    exact kB_bool_str
  | .list, .bool _, b, e => by
    cases e
    exact kB_bool_list
  | .tuple, .bool _, b, e => by
    cases e
    exact kB_bool_tuple
  | .int, .int _, b, e => by
    cases e
    exact kB_int_int
  | .bool, .int _, b, e => by
    cases e
    exact kB_int_bool
  | .str, .int _, b, e => by
    cases e
    exact kB_int_str
  | .list, .int _, b, e => by
    cases e
    exact kB_int_list
  | .tuple, .int _, b, e => by
    cases e
    exact kB_int_tuple
  | .int, .str _, b, e => by
    cases e
    exact kB_str_int
  | .bool, .str _, b, e => by
    cases e
    exact kB_str_bool
  | .str, .str _, b, e => by
    cases e
    exact kB_str_str
  | .list, .str _, b, e => by
    cases e
    exact kB_str_list
  | .tuple, .str _, b, e => by
    cases e
    exact kB_str_tuple
  | .int, .list _, b, e => by
    cases e
    exact kB_list_int
  | .bool, .list _, b, e => by
    cases e
    exact kB_list_bool
  | .str, .list _, b, e => by
    cases e
    exact kB_list_str
  | .list, .list _, b, e => by
    cases e
    exact kB_list_list
  | .tuple, .list _, b, e => by
    cases e
    exact kB_list_tuple
  | .int, .tuple _, b, e => by
    cases e
    exact kB_tuple_int
  | .bool, .tuple _, b, e => by
    cases e
    exact kB_tuple_bool
  | .str, .tuple _, b, e => by
    cases e
    exact kB_tuple_str
  | .list, .tuple _, b, e => by
    cases e
    exact kB_tuple_list
  | .tuple, .tuple _, b, e => by
    cases e
    exact kB_tuple_tuple
  | .int, .dict kvs, b, e => by
    simp only [isTy] at e
    split at e
    · cases e
      exact kB_dict_int
    · cases e
  | .bool, .dict kvs, b, e => by
    simp only [isTy] at e
    split at e
    · cases e
      exact kB_dict_bool
    · cases e
  | .str, .dict kvs, b, e => by
    simp only [isTy] at e
    split at e
    · cases e
      exact kB_dict_str
    · cases e
  | .list, .dict kvs, b, e => by
    simp only [isTy] at e
    split at e
    · cases e
      exact kB_dict_list
    · cases e
  | .tuple, .dict kvs, b, e => by
    simp only [isTy] at e
    split at e
    · cases e
      exact kB_dict_tuple
    · cases e
theorem tyx_d {H0 H : Hp} {v : V} {d : D} (s : Sub H0 H) (h : RelT K H0 H v d) (hd : ∀ kvs, d = .dict kvs → notScr kvs = true) : TyX K H v (.type (tyOfD d)) := by
  rcases h with h | ⟨p, xs, ds, rfl, rfl, h1, _⟩
  · cases h with
    | non => exact .base .non
    | bl b => exact .base (.bl b)
    | int i => exact .base (.int i)
    | str x => exact .base (.str x)
    | lst h1 h2 => exact .base (.lst (s _ _ h1))
    | tup h1 h2 => exact .base (.tup (s _ _ h1))
    | scr _ => exact nomatch (hd _ rfl)
    | dck h1 _ => exact .base (.dK (s _ _ h1))
    | dct h1 _ => exact .base (.dT (s _ _ h1))
    | lam _ _ _ _ => exact nomatch (hd _ rfl)
  · exact .base (.lst h1)
theorem isAny_kit {ts : List Ty} {d : D} {b : Bool} (e : isAny ts d = some b) : PySem.W.kitAny K (.type (tyOfD d)) (ts.map fun t => .type (tyS t)) = some b := by
  induction ts with
  | nil =>
    cases e
    exact kitAny_nil
  | cons t ts ih =>
    simp only [isAny, Option.bind_eq_some_iff] at e
    obtain ⟨c, e1, e2⟩ := e
    refine kitAny_cons (kit_ty (kit_d e1)) (fun h => ?_) (fun h => ?_)
    · subst h
      exact ih (by simpa using e2)
    · subst h
      simp only [if_true, Option.some.injEq] at e2
      exact e2.symm
theorem isAny_nodict {ts : List Ty} {d : D} {b : Bool} (hn : ts ≠ []) (e : isAny ts d = some b) : ∀ kvs, d = .dict kvs → notScr kvs = true := by
  intro kvs h
  subst h
  cases ts with
  | nil => exact absurd rfl hn
  | cons t ts =>
    simp only [isAny, isTy, Option.bind_eq_some_iff] at e
    obtain ⟨c, e1, _⟩ := e
    split at e1
    · assumption
    · cases e1
/-- the classes of a tuple of classes -/
def kTys (ts : List Ty) : TA := fun _ H Q => Q (ts.map fun t => V.ty (tyS t)) H
theorem xty_nil : PA X [] (kTys []) := pa_nil
theorem xty_cons {t : Ty} {ts : List Ty} {x : Str} {p : Pos} {es : List Expr} (hg : Gl X x) (hm : X.mg x = none) (hv : bootBuiltins x = some (.type (tyS t))) (ht : PA X es (kTys ts)) (hn : x ≠ "__name__" := by decide) (hdb : (x == ("__debug__" : Str)) = false := by decide)
    (hs : starEach (.Name x p :: es) X.env = (false, eval (.Name x p) X.env) :: starEach es X.env := by rfl) : PA X (.Name x p :: es) (kTys (t :: ts)) := (pa_cons (pe_bltn (v := .ty (tyS t)) hg hm hv rfl hn hdb) ht hs).weak fun _ _ _ h => h
theorem cls_all (ts : List Ty) : Paired ClsV (ts.map fun t => V.ty (tyS t)) (ts.map fun t => Value.type (tyS t)) := by
  induction ts with
  | nil => exact .nil
  | cons t ts ih => exact .cons (.ty _) ih
theorem x_isi1 {t : Ty} {x : Str} {p p2 : Pos} (ha : XO X a f) (hgi : Gl X "isinstance") (hmi : X.mg "isinstance" = none) (hbi : bootBuiltins "isinstance" = some (.builtin "isinstance")) (hg : Gl X x) (hm : X.mg x = none) (hv : bootBuiltins x = some (.type (tyS t))) (hn : x ≠ "__name__" := by decide) (hdb : (x == ("__debug__" : Str)) = false := by decide)
    (h1 : starEach [a, .Name x p] X.env = (false, eval a X.env) :: starEach [.Name x p] X.env := by rfl) (h2 : (backTo pos (starEach [.Name x p] X.env)).any (·.1) = false := by rfl) (h3 : starEach [.Name x p] X.env = (false, eval (.Name x p) X.env) :: starEach [] X.env := by rfl) :
    XV X (.Call (.Name "isinstance" p2) [a, .Name x p] [] pos) (fUn (uIs [t]) f) :=
  (pe_callB call_isi hgi hmi hbi (pa_cons ha (pa_cons (pe_bltn (v := .ty (tyS t)) hg hm hv rfl hn hdb) pa_nil h3) h1) (by decide) (by decide) h1 h2).weak fun σ H Q ⟨G, H0, δ, res, δ', eK, R, e, q⟩ => by
    simp only [fUn, uIs, Option.bind_eq_some_iff, Option.map_eq_some_iff] at e
    obtain ⟨⟨o1, δ1⟩, e1, dx, e3, r', ⟨b, e5, e5'⟩, e6⟩ := e
    cases e5'
    cases e6
    refine ⟨G, H0, δ, o1, δ1, eK, R, e1, fun v H0' H' R1 s1 k1 => ?_⟩
    rw [← eK]
    have rt := R1.rd k1 e3
    have nd := isAny_nodict (by simp) e5
    simp only [isAny, Option.bind_eq_some_iff] at e5
    obtain ⟨c, e7, e8⟩ := e5
    have : c = b := by
      cases c
      · simpa using e8
      · simpa using e8
    subst this
    exact ⟨v, .ty (tyS t), _, _, c, rfl, .ty _, tyx_d R1.sub rt nd, kit_ty (kit_d e7), q _ _ _ R1 s1 (.bl _)⟩
theorem x_isiT {ts : List Ty} {es : List Expr} {j : Nat} {p p2 : Pos} (hne : ts ≠ []) (hlen : ts.length ≤ 100) (ha : XO X a f) (hgi : Gl X "isinstance") (hmi : X.mg "isinstance" = none) (hbi : bootBuiltins "isinstance" = some (.builtin "isinstance")) (ht : PA X es (kTys ts))
    (h1 : starEach [a, .Tuple es j p] X.env = (false, eval a X.env) :: starEach [.Tuple es j p] X.env := by rfl) (h2 : (backTo pos (starEach [.Tuple es j p] X.env)).any (·.1) = false := by rfl) (h3 : starEach [.Tuple es j p] X.env = (false, eval (.Tuple es j p) X.env) :: starEach [] X.env := by rfl) :
    XV X (.Call (.Name "isinstance" p2) [a, .Tuple es j p] [] pos) (fUn (uIs ts) f) :=
  (pe_callB call_isiT hgi hmi hbi (pa_cons ha (pa_cons (pe_tup ht) pa_nil h3) h1) (by decide) (by decide) h1 h2).weak fun σ H Q ⟨G, H0, δ, res, δ', eK, R, e, q⟩ => by
    simp only [fUn, uIs, Option.bind_eq_some_iff, Option.map_eq_some_iff] at e
    obtain ⟨⟨o1, δ1⟩, e1, dx, e3, r', ⟨b, e5, e5'⟩, e6⟩ := e
    cases e5'
    cases e6
    refine ⟨G, H0, δ, o1, δ1, eK, R, e1, fun v H0' H' R1 s1 k1 => ?_⟩
    rw [← eK]
    have rt := R1.rd k1 e3
    have nd := isAny_nodict hne e5
    refine ⟨Nat.le_trans (by rw [List.length_map]; exact hlen) (by rw [sizeLine_eq]; decide), fun z hz => ?_⟩
    refine ⟨v, z, _, _, _, b, rfl, upd_same, cls_all ts, tyx_d (R1.laid hz).sub (by
      rcases rt with rt | ⟨p', xs, ds, e1, e2, e3, e4⟩
      · exact .inl rt
      · exact .inr ⟨p', xs, ds, e1, e2, Sub.new hz _ _ e3, e4⟩) nd, isAny_kit e5, q _ _ _ (R1.laid hz) s1 (.bl _)⟩
end
end IP
end
section
set_option Elab.async false
set_option linter.all false
set_option maxRecDepth 100000
set_option maxHeartbeats 400000
namespace IP
open PySem L2
section
variable {X : Cx} {K : PySem.W.Frag}
/-! ### builtins -/
theorem one {H0 H : Hp} {vs : List V} {d : D} (h : RelTAll K H0 H vs [d]) : ∃ v, vs = [v] ∧ RelT K H0 H v d := by
  cases h with
  | cons h t =>
    cases t
    exact ⟨_, rfl, h⟩
theorem two {H0 H : Hp} {vs : List V} {d e : D} (h : RelTAll K H0 H vs [d, e]) : ∃ v w, vs = [v, w] ∧ RelT K H0 H v d ∧ RelT K H0 H w e := by
  cases h with
  | cons h t =>
    obtain ⟨w, rfl, h2⟩ := one t
    exact ⟨_, _, rfl, h, h2⟩
abbrev rLenQ (K : PySem.W.Frag) : List V → Hp → VK → Prop := fun xs H Q => ∃ p ys, xs = [.ref p] ∧ (SqL K H p ys ∨ SqT K H p ys) ∧ Q (.int ys.length) H
theorem s_len : BiS K (rLenQ K) biLen := by
  intro G H0 H δ σ vs ds res eK R r e Q q
  subst eK
  unfold biLen at e
  split at e
  · cases e
    obtain ⟨v, rfl, h⟩ := one r
    obtain ⟨p, xs, rfl, h1, h2⟩ := relT_list R.sub h
    exact ⟨p, xs, rfl, .inl (SqL.of h1), q _ _ _ R (Sub.refl _) (by rw [h2.length]; exact .int _)⟩
  · cases e
    obtain ⟨v, rfl, h⟩ := one r
    obtain ⟨p, xs, rfl, h1, h2⟩ := relT_tup h
    exact ⟨p, xs, rfl, .inr (SqT.of (R.sub _ _ h1)), q _ _ _ R (Sub.refl _) (by rw [h2.length]; exact .int _)⟩
  · cases e
    obtain ⟨v, rfl, h⟩ := one r
    obtain ⟨p, ns, rfl, h1, rfl⟩ := relT_scr h
    refine ⟨p, _, rfl, .inl (SqL.sub R.sub h1), q _ _ _ R (Sub.refl _) ?_⟩
    rw [List.length_map, List.length_map]
    exact .int _
  · cases e
abbrev rInt1 : List V → Hp → VK → Prop := fun xs H Q => (∃ i, xs = [.int i] ∧ Q (.int i) H) ∨ ∃ k, xs = [.bl k] ∧ Q (.int (if k then 1 else 0)) H
theorem s_int1 : BiS K rInt1 biInt := by
  intro G H0 H δ σ vs ds res eK R r e Q q
  unfold biInt at e
  split at e
  · cases e
    obtain ⟨v, rfl, h⟩ := one r
    obtain rfl := relT_int h
    exact .inl ⟨_, rfl, q _ _ _ R (Sub.refl _) (.int _)⟩
  · cases e
    obtain ⟨v, rfl, h⟩ := one r
    obtain rfl := relT_bool h
    exact .inr ⟨_, rfl, q _ _ _ R (Sub.refl _) (.int _)⟩
  · cases e
abbrev rTupO (K : PySem.W.Frag) : List V → Hp → VK → Prop := fun xs H Q => ∃ p ys, xs = [.ref p] ∧ ((SqL K H p ys ∧ ∀ l, H l = none → Q (.ref l) (upd H l (.tup ys))) ∨ (SqT K H p ys ∧ Q (.ref p) H))
theorem s_tupO : BiS K (rTupO K) biTuple := by
  intro G H0 H δ σ vs ds res eK R r e Q q
  subst eK
  unfold biTuple at e
  split at e
  · cases e
    obtain ⟨v, rfl, h⟩ := one r
    obtain ⟨p, xs, rfl, h1, h2⟩ := relT_list R.sub h
    refine ⟨p, xs, rfl, .inl ⟨SqL.of h1, fun z hz => ?_⟩⟩
    obtain ⟨R4, s4⟩ := R.laid0 (o := .tup xs) hz
    exact q _ _ _ R4 s4 (.tup upd_same (h2.sub s4))
  · cases e
    obtain ⟨v, rfl, h⟩ := one r
    obtain ⟨p, xs, rfl, h1, h2⟩ := relT_tup h
    exact ⟨p, xs, rfl, .inr ⟨SqT.of (R.sub _ _ h1), q _ _ _ R (Sub.refl _) (.tup h1 h2)⟩⟩
  · cases e
abbrev rLstO (K : PySem.W.Frag) : List V → Hp → VK → Prop := fun xs H Q => ∃ p ys, xs = [.ref p] ∧ (SqL K H p ys ∨ SqT K H p ys) ∧ ∀ l, H l = none → Q (.ref l) (upd H l (.lst ys))
theorem s_lstO : BiS K (rLstO K) biList := by
  intro G H0 H δ σ vs ds res eK R r e Q q
  subst eK
  have fin : ∀ xs es, RelAll G.K H0 xs es → res = .new es → ∀ l, H l = none → Q (.ref l) (upd H l (.lst xs)) := by
    rintro xs es h2 rfl z hz
    have f := R.freshI hz
    exact q _ _ _ (R.laid hz) (Sub.refl _) ⟨z, _, rfl, upd_same, h2, f.1, f.2.1, f.2.2⟩
  unfold biList at e
  split at e
  · cases e
    obtain ⟨v, rfl, h⟩ := one r
    obtain ⟨p, xs, rfl, h1, h2⟩ := relT_list R.sub h
    exact ⟨p, xs, rfl, .inl (SqL.of h1), fin _ _ h2 rfl⟩
  · cases e
    obtain ⟨v, rfl, h⟩ := one r
    obtain ⟨p, xs, rfl, h1, h2⟩ := relT_tup h
    exact ⟨p, xs, rfl, .inr (SqT.of (R.sub _ _ h1)), fin _ _ h2 rfl⟩
  · cases e
theorem s_sum : BiS K (rSum K) biSum := by
  intro G H0 H δ σ vs ds res eK R r e Q q
  subst eK
  unfold biSum at e
  split at e
  · simp only [Option.map_eq_some_iff] at e
    obtain ⟨is, e1, rfl⟩ := e
    obtain ⟨v, rfl, h⟩ := one r
    obtain ⟨p, xs, rfl, h1, h2⟩ := relT_list R.sub h
    obtain rfl := h2.ints e1
    exact ⟨p, is, rfl, SqL.of h1, q _ _ _ R (Sub.refl _) (.int _)⟩
  · cases e
theorem s_all : BiS K (rAll K) biAll := by
  intro G H0 H δ σ vs ds res eK R r e Q q
  subst eK
  unfold biAll at e
  split at e
  · simp only [Option.map_eq_some_iff] at e
    obtain ⟨is, e1, rfl⟩ := e
    obtain ⟨v, rfl, h⟩ := one r
    obtain ⟨p, xs, rfl, h1, h2⟩ := relT_list R.sub h
    obtain rfl := h2.bools e1
    exact ⟨p, is, rfl, SqL.of h1, q _ _ _ R (Sub.refl _) (.bl _)⟩
  · cases e
theorem s_any : BiS K (rAny K) biAny := by
  intro G H0 H δ σ vs ds res eK R r e Q q
  subst eK
  unfold biAny at e
  split at e
  · simp only [Option.map_eq_some_iff] at e
    obtain ⟨is, e1, rfl⟩ := e
    obtain ⟨v, rfl, h⟩ := one r
    obtain ⟨p, xs, rfl, h1, h2⟩ := relT_list R.sub h
    obtain rfl := h2.bools e1
    exact ⟨p, is, rfl, SqL.of h1, q _ _ _ R (Sub.refl _) (.bl _)⟩
  · cases e
abbrev rMax2Q : List V → Hp → VK → Prop := fun xs H Q => ∃ i j, xs = [.int i, .int j] ∧ Q (.int (if j > i then j else i)) H
abbrev rMin2Q : List V → Hp → VK → Prop := fun xs H Q => ∃ i j, xs = [.int i, .int j] ∧ Q (.int (if j < i then j else i)) H
theorem s_max2 : BiS K rMax2Q biMax := by
  intro G H0 H δ σ vs ds res eK R r e Q q
  unfold biMax at e
  split at e
  · cases e
    obtain ⟨v, w, rfl, h, h'⟩ := two r
    obtain rfl := relT_int h
    obtain rfl := relT_int h'
    exact ⟨_, _, rfl, q _ _ _ R (Sub.refl _) (.int _)⟩
  · cases e
theorem s_min2 : BiS K rMin2Q biMin := by
  intro G H0 H δ σ vs ds res eK R r e Q q
  unfold biMin at e
  split at e
  · cases e
    obtain ⟨v, w, rfl, h, h'⟩ := two r
    obtain rfl := relT_int h
    obtain rfl := relT_int h'
    exact ⟨_, _, rfl, q _ _ _ R (Sub.refl _) (.int _)⟩
  · cases e

/-! ### a def keeps its promise -/
theorem fn_read {F : Fn} {N : List Str} {vs : List V} {H : Hp} {Q : VK} {E : XK} (hN : N.length = F.names) (hle : F.nps ≤ F.names) (h : spI K F.run vs H Q E) : kS K F.body { nx := fun _ H' => Q .non H', rt := Q } (L2.start N vs) H := by
  obtain ⟨H0, ds, r, s0, h⟩ := h
  have sn : ∀ (i : Nat) (v : V), vs[i]? = some v → (L2.start N vs)[i]? = some (some v) := fun i v e => by
    unfold L2.start
    have hl : i < vs.length := (List.getElem?_eq_some_iff.mp e).1
    rw [List.getElem?_append_left (by rw [List.length_map]; exact hl), List.getElem?_map, e]
    rfl
  rcases h with ⟨ra, e, q⟩ | ⟨p, xs, xds, yds, ws, rfl, ra, hp, rx, hp0, e, q⟩
  · simp only [Fn.run] at e
    split at e
    · rename_i hb hr
      cases hr
    · rename_i hb hr
      split at e
      · rename_i hlen
        simp only [Option.bind_eq_some_iff] at e
        obtain ⟨δ0, e0, ⟨o, δ1⟩, e1, r', e2, e3⟩ := e
        cases e0
        let G : Gx := ⟨K, H, H0, [], [], []⟩
        have hvl : vs.length = ds.length := ra.length
        have dl : ∀ (i : Nat) (s : Slot), (ds.map Slot.dat ++ List.replicate (F.names - F.nps) .un)[i]? = some s → s = .un ∨ ∃ d, s = .dat d ∧ ds[i]? = some d := fun i s e => by
          by_cases hi : i < ds.length
          · rw [List.getElem?_append_left (by rw [List.length_map]; exact hi), List.getElem?_map] at e
            simp only [Option.map_eq_some_iff] at e
            obtain ⟨d, h1, h2⟩ := e
            exact .inr ⟨d, h2.symm, h1⟩
          · rw [List.getElem?_append_right (by rw [List.length_map]; omega)] at e
            exact .inl (List.eq_of_mem_replicate (List.mem_of_getElem? e))
        have R : Rl G H0 H (ds.map Slot.dat ++ List.replicate (F.names - F.nps) .un) (L2.start N vs) := by
          refine ⟨?_, s0, Sub.refl _, fun a o e _ _ => e, fun a o e => .inl ⟨o, e⟩, fun i s es => ?_, fun i j p hi _ => ?_, (fun z hz => nomatch hz), (fun z hz => nomatch hz), tabs_no rfl⟩
          · unfold L2.start
            rw [List.length_append, List.length_append, List.length_map, List.length_map, List.length_replicate, List.length_replicate]
            omega
          · rcases dl i s es with rfl | ⟨d, rfl, h1⟩
            · trivial
            · obtain ⟨v, h2, h3⟩ := ra.get h1
              exact ⟨v, sn i v h2, h3⟩
          · obtain ⟨s, h1, h2, _⟩ := hi
            rcases dl i s h1 with rfl | ⟨d, rfl, _⟩ <;> cases h2
        refine ⟨G, H0, _, o, δ1, rfl, R, e1, fun τ A H1 R1 s1 => ?_⟩
        have fin : ∀ v, RetOk K H A H1 r' v → r' = r → Q v H1 := fun v k er => by
          subst er
          exact q v A H1 s1 R1.sub (fun a o e => R1.keep a o e (fun z hz => nomatch hz) (fun z => nomatch z)) R1.fro k
        have er : r' = r := by
          dsimp only at e3
          split at e3
          · rename_i hb' _
            rw [hb] at hb'
            cases hb'
          · cases e3
            rfl
          · cases e3
        cases o with
        | nx =>
          cases e2
          exact fin .non .non er
        | rt r0 =>
          cases e2
          intro v k
          refine fin v ?_ er
          cases r' with
          | dat d => exact k
          | new es =>
            obtain ⟨z, us, y1, y2, y3, y4, y5, _⟩ := k
            exact ⟨z, us, y1, y2, y3, y4, y5⟩
          | newD t kvs =>
            obtain ⟨z, y1, y2, y4, y5, _⟩ := k
            exact ⟨z, y1, y2, y4, y5⟩
        | bk => cases e2
        | ro _ => cases e2
        | ct => cases e2
      · cases e
    · cases e
  · simp only [Fn.run] at e
    split at e
    · rename_i xs' hb hr
      cases hr
      split at e
      · rename_i hlen
        simp only [Option.bind_eq_some_iff] at e
        obtain ⟨δ0, e0, ⟨o, δ1⟩, e1, r', e2, e3⟩ := e
        cases e0
        let G : Gx := ⟨K, H, H0, [(0, p)], [], []⟩
        have hvl : ws.length = ds.length := ra.length
        have dl : ∀ (i : Nat) (s : Slot), (ds.map Slot.dat ++ List.replicate (F.names - F.nps) .un)[i]? = some s → s = .un ∨ ∃ d, s = .dat d ∧ ds[i]? = some d := fun i s e => by
          by_cases hi : i < ds.length
          · rw [List.getElem?_append_left (by rw [List.length_map]; exact hi), List.getElem?_map] at e
            simp only [Option.map_eq_some_iff] at e
            obtain ⟨d, h1, h2⟩ := e
            exact .inr ⟨d, h2.symm, h1⟩
          · rw [List.getElem?_append_right (by rw [List.length_map]; omega)] at e
            exact .inl (List.eq_of_mem_replicate (List.mem_of_getElem? e))
        have R : Rl G H0 H (Slot.prm xds :: (ds.map Slot.dat ++ List.replicate (F.names - F.nps) .un)) (L2.start N (.ref p :: ws)) := by
          refine ⟨?_, s0, Sub.refl _, fun a o e _ _ => e, fun a o e => .inl ⟨o, e⟩, fun i s es => ?_, fun i j p' hi hj => ?_, fun z hz => ?_, (fun z hz => nomatch hz), tabs_no rfl⟩
          · unfold L2.start
            simp only [List.length_append, List.length_cons, List.length_map, List.length_replicate]
            omega
          · cases i with
            | zero =>
              cases es
              exact ⟨p, xs, sn 0 _ rfl, List.mem_singleton.mpr rfl, hp, rx, hp0⟩
            | succ i =>
              rw [List.getElem?_cons_succ] at es
              rcases dl i s es with rfl | ⟨d, rfl, h1⟩
              · trivial
              · obtain ⟨v, h2, h3⟩ := ra.get h1
                exact ⟨v, sn (i + 1) v (by rw [List.getElem?_cons_succ]; exact h2), h3⟩
          · have zero : ∀ i, Holds H (Slot.prm xds :: (ds.map Slot.dat ++ List.replicate (F.names - F.nps) .un)) (L2.start N (.ref p :: ws)) i p' → i = 0 := fun i ⟨s, h1, h2, _⟩ => by
              cases i with
              | zero => rfl
              | succ i =>
                rw [List.getElem?_cons_succ] at h1
                rcases dl i s h1 with rfl | ⟨d, rfl, _⟩ <;> cases h2
            rw [zero i hi, zero j hj]
          · obtain rfl := List.mem_singleton.mp hz
            exact ⟨.prm xds, rfl, rfl, sn 0 _ rfl⟩
        refine ⟨G, H0, _, o, δ1, rfl, R, e1, fun τ A H1 R1 s1 => ?_⟩
        dsimp only at e3
        split at e3
        · rename_i ys hb' hpr
          cases e3
          obtain ⟨es, z1, _, z2⟩ := R1.prs (0, p) (List.mem_singleton.mpr rfl)
          obtain ⟨p', us, w1, w0, w2, w3, w4⟩ := R1.slot 0 _ hpr
          rw [z2] at w1
          cases w1
          have fin : ∀ v, RetOk K H A H1 r v → Q v H1 := fun v k =>
            q v A H1 us s1 R1.sub (fun a o e ha => R1.keep a o e (fun z hz => by
              obtain rfl := List.mem_singleton.mp hz
              exact fun h => ha h.symm) (fun z => nomatch z)) R1.fro w2 w3 w4 k
          cases o with
          | nx =>
            cases e2
            exact fin .non .non
          | rt r0 =>
            cases e2
            intro v k
            refine fin v ?_
            cases r with
            | dat d => exact k
            | new es =>
              obtain ⟨z, us, y1, y2, y3, y4, y5, _⟩ := k
              exact ⟨z, us, y1, y2, y3, y4, y5⟩
            | newD t kvs =>
              obtain ⟨z, y1, y2, y4, y5, _⟩ := k
              exact ⟨z, y1, y2, y4, y5⟩
          | bk => cases e2
          | ro _ => cases e2
          | ct => cases e2
        · cases e3
        · cases e3
      · cases e
    · rename_i hb hr
      cases hr
    · cases e
theorem spI_len {F : Fn} {ps : List Str} (hl : ps.length = F.nps) {vs : List V} {H : Hp} {Q : VK} {E : XK} (h : spI K F.run vs H Q E) : vs.length = ps.length := by
  obtain ⟨H0, ds, r, s0, h⟩ := h
  rw [hl]
  rcases h with ⟨ra, e, q⟩ | ⟨p, xs, xds, yds, ws, rfl, ra, hp, rx, hp0, e, q⟩
  · simp only [Fn.run] at e
    split at e
    · rename_i hb hr
      cases hr
    · split at e
      · rename_i h
        rw [ra.length, h]
      · cases e
    · cases e
  · simp only [Fn.run] at e
    split at e
    · split at e
      · rename_i h
        rw [List.length_cons, ra.length, h]
      · cases e
    · rename_i hb hr
      cases hr
    · cases e
end
end IP
end
section
set_option Elab.async false
set_option linter.all false
set_option maxRecDepth 100000
set_option maxHeartbeats 400000
namespace IP
open PySem L2
section
variable {X : Cx} {K : PySem.W.Frag} {a b c : Expr} {f g h : Eo} {pos : Pos}
theorem flat_ints (is : List Int) : (is.map V.int).all flatV = true := by
  induction is with
  | nil => rfl
  | cons i is ih => rw [List.map_cons, List.all_cons, ih] <;> rfl
theorem in_ints (i : Int) (is : List Int) : inV (.int i) (is.map V.int) = decide (i ∈ is) := by
  unfold inV
  induction is with
  | nil => rfl
  | cons j is ih =>
    rw [List.map_cons, List.any_cons, ih]
    by_cases h : j = i
    · subst h
      have : eqV (.int j) (.int j) = true := by simp [eqV]
      rw [this]
      simp
    · have : eqV (.int j) (.int i) = false := by simp [eqV, h]
      rw [this, Bool.false_or]
      have h' : ¬ i = j := fun e => h e.symm
      simp [h']
theorem s_in : OpS K (rIn K false) bIn := by
  intro G H0 H δ σ x y dx dy res eK R rx ry e Q q
  subst eK
  unfold bIn at e
  split at e
  · simp only [Option.map_eq_some_iff] at e
    obtain ⟨is, e1, rfl⟩ := e
    obtain rfl := relT_int rx
    obtain ⟨p, xs, rfl, h1, h2⟩ := relT_list R.sub ry
    obtain rfl := h2.ints e1
    refine ⟨p, _, rfl, .inl (SqL.of h1), rfl, flat_ints _, ?_⟩
    rw [if_neg Bool.false_ne_true, in_ints]
    exact q _ _ _ R (Sub.refl _) (.bl _)
  · simp only [Option.map_eq_some_iff] at e
    obtain ⟨is, e1, rfl⟩ := e
    obtain rfl := relT_int rx
    obtain ⟨p, xs, rfl, h1, h2⟩ := relT_tup ry
    obtain rfl := h2.ints e1
    refine ⟨p, _, rfl, .inr (SqT.of (R.sub _ _ h1)), rfl, flat_ints _, ?_⟩
    rw [if_neg Bool.false_ne_true, in_ints]
    exact q _ _ _ R (Sub.refl _) (.bl _)
  · cases e
theorem s_notIn : OpS K (rIn K true) bNotIn := by
  intro G H0 H δ σ x y dx dy res eK R rx ry e Q q
  subst eK
  unfold bNotIn at e
  split at e
  · simp only [Option.map_eq_some_iff] at e
    obtain ⟨is, e1, rfl⟩ := e
    obtain rfl := relT_int rx
    obtain ⟨p, xs, rfl, h1, h2⟩ := relT_list R.sub ry
    obtain rfl := h2.ints e1
    refine ⟨p, _, rfl, .inl (SqL.of h1), rfl, flat_ints _, ?_⟩
    rw [if_pos rfl, in_ints]
    exact q _ _ _ R (Sub.refl _) (.bl _)
  · simp only [Option.map_eq_some_iff] at e
    obtain ⟨is, e1, rfl⟩ := e
    obtain rfl := relT_int rx
    obtain ⟨p, xs, rfl, h1, h2⟩ := relT_tup ry
    obtain rfl := h2.ints e1
    refine ⟨p, _, rfl, .inr (SqT.of (R.sub _ _ h1)), rfl, flat_ints _, ?_⟩
    rw [if_pos rfl, in_ints]
    exact q _ _ _ R (Sub.refl _) (.bl _)
  · cases e
/-- constants of the module -/
theorem x_globI {x : Str} {i : Int} (hg : Gl X x) (hm : ∃ t, X.mg x = some (.int i t)) (hdb : (x == ("__debug__" : Str)) = false := by decide) : XV X (.Name x pos) (vC (.int i)) := by
  obtain ⟨t, e⟩ := hm
  exact x_glob hg e (v := .int i) ⟨t, rfl⟩ (fun _ => .int i) hdb
/-- x not in a tuple of the module -/
theorem x_notInGT {x : Str} {is : List Int} {p : Addr} {pos2 : Pos} (ha : XO X a f) (hg : Gl X x) (hm : X.mg x = some (.ref p)) (ht : ∀ H, SqT X.K H p (is.map V.int)) (hdb : (x == ("__debug__" : Str)) = false := by decide) (hmk : behindInMarks .NotIn (.Name x pos2) = false := by rfl) : XT X (.Compare a [.NotIn] [.Name x pos2] pos) (tB (fBin bNotIn f (oV (vC (.tuple (is.map .int)))))) :=
  (pt_cmpR op_notIn_seq ha (pe_glob hg hm (v := .ref p) rfl hdb) hmk).weak fun σ H Q ⟨G, H0, δ, res, δ', eK, R, e, q⟩ => by
    simp only [tB, fBin, oV, vC, Option.bind_eq_some_iff, Option.map_eq_some_iff] at e
    obtain ⟨⟨r1, δ1⟩, ⟨⟨o1, δ2⟩, e1, ⟨o2, δ3⟩, ⟨⟨r3, δ4⟩, e3, e4⟩, dx, e5, dy, e6, r5, e7, e8⟩, e2⟩ := e
    cases e3
    cases e4
    simp only [IP.rd, Res.toD, Option.some.injEq] at e6
    subst e6
    cases e8
    refine ⟨G, H0, δ, o1, δ2, eK, R, e1, fun v H0' H' R' s k1 => ?_⟩
    simp only [bNotIn] at e7
    cases dx with
    | int i =>
      have hint : ∀ l : List Int, intsOf (l.map .int) = some l := fun l => by
        induction l with
        | nil => rfl
        | cons a l ih => rw [List.map_cons, intsOf, ih]; rfl
      have e7' : (intsOf (is.map PyData.int)).map (fun js => Res.dat (.bool (!decide (i ∈ js)))) = some _ := e7
      rw [hint] at e7'
      cases e7'
      cases e2
      obtain rfl := relT_int (R'.rd k1 e5)
      show rIn X.K true (.int i) (.ref p) H' fun x H' => ∃ k, x = V.bl k ∧ Q k H'
      refine ⟨p, is.map V.int, rfl, .inr (ht _), rfl, flat_ints _, ?_⟩
      rw [if_pos rfl, in_ints]
      exact ⟨_, rfl, q _ _ R' s⟩
    | _ => exact nomatch e7
/-- a chain as a test -/
theorem x_chainT {o1 o2 : CmpOp} {r1 r2 : R2} {p1 p2 : D → D → Option Res} (h1 : OpR X (compareOp o1) r1) (h2 : OpR X (compareOp o2) r2) (s1 : OpS X.K r1 p1) (s2 : OpS X.K r2 p2) (ha : XO X a f) (hb : XO X b g) (hc : XO X c h)
    (hm : lastMarks [o1, o2] [b, c] = false := by with_unfolding_all rfl) : XT X (.Compare a [o1, o2] [b, c] pos) (tB (vChain p1 p2 f g h)) :=
  (pt_chain h1 h2 ha hb hc hm).weak fun σ H Q ⟨G, H0, δ, res, δ', eK, R, e, q⟩ => by
    simp only [IP.tB, Option.bind_eq_some_iff] at e
    obtain ⟨⟨r, δ1⟩, e0, e00⟩ := e
    simp only [vChain, Option.bind_eq_some_iff] at e0
    obtain ⟨⟨o1, δ1'⟩, e1, ⟨o2, δ2⟩, e2, dx, e3, dy, e4, r', e5, e6⟩ := e0
    refine ⟨G, H0, δ, o1, δ1', eK, R, e1, fun v H0' H' R1 s1' k1 => ?_⟩
    refine ⟨G, H0', δ1', o2, δ2, eK, R1, e2, fun w H0'' H'' R2 s2' k2 => ?_⟩
    refine s1 G H0'' H'' δ2 σ v w dx dy r' eK R2 (R2.rd (k1.sub s2') e3) (R2.rd k2 e4) e5 _ fun z A B R3 s3 k3 => ?_
    cases r' with
    | new _ => cases e6
    | newD _ _ => cases e6
    | dat d =>
      cases d with
      | bool t =>
        cases k3
        cases t with
        | false =>
          cases e6
          cases e00
          exact ⟨false, rfl, iteF ⟨false, rfl, q A B R3 ((s1'.trans s2').trans s3)⟩⟩
        | true =>
          simp only [Option.bind_eq_some_iff, Option.map_eq_some_iff] at e6
          obtain ⟨⟨o3, δ3⟩, e7, dy', e8, dz, e9, r'', e10, e11⟩ := e6
          cases e11
          refine ⟨true, rfl, iteT ?_⟩
          refine ⟨G, A, δ2, o3, δ3, eK, R3, e7, fun u A' B' R4 s4 k4 => ?_⟩
          refine s2 G A' B' δ3 σ w u dy' dz _ eK R4 (R4.rd ((k2.sub s3).sub s4) e8) (R4.rd k4 e9) e10 _ fun z C C' R5 s5 k5 => ?_
          cases r with
          | new _ => cases e00
          | newD _ _ => cases e00
          | dat d =>
            cases d with
            | bool k =>
              cases e00
              cases k5
              exact ⟨_, rfl, q C C' R5 ((((s1'.trans s2').trans s3).trans s4).trans s5)⟩
            | _ => cases e00
      | _ => cases e6
end
end IP
end
section
set_option Elab.async false
set_option linter.all false
set_option maxRecDepth 100000
set_option maxHeartbeats 2000000
/-! enumerate(tuple). -/
namespace PySem
open AutoSeq1 (wpAny_loadPart')
theorem meets_enumerate_newT (l : Addr) (items : Array Value) :
    Meets (Builtin.«enumerate.__new__» ⟨[.type "enumerate", .ref l], []⟩) (fun _ R s => s.heap.IsTuple l items ∧
      R (.ok (.ret (.ref (s.heap.push { cls := .type "tuple_iterator", data := .fields #[.ref l, .int 0 0] }).objs.size)))
        { s with heap := (s.heap.push { cls := .type "tuple_iterator", data := .fields #[.ref l, .int 0 0] }).push { cls := .type "enumerate", data := .fields #[.none, .bool false, .ref s.heap.objs.size, rawInt 0, .none, .none] } }) :=
  .of_wp fun prog w A R s h => by
    obtain ⟨hp, g, d, tk, os⟩ := s; obtain ⟨hl, h⟩ := h
    have hsub := sub_enumerate
    have hL : Heap.IsTuple (Shared.heap ⟨hp, g, d, tk, os⟩) l items := hl
    wp_walk
    refine wpAny_stack_any fun st => wpAny_pure ?_
    split
    · rename_i c _ _ _ _ _
      cases (c == Value.type "enumerate")
      · wp_walk using wpAny_pyIter_tuple hL
        exact ⟨_, rfl, h⟩
      · wp_walk using wpAny_pyIter_tuple hL
        exact ⟨_, rfl, h⟩
    · wp_walk using wpAny_pyIter_tuple hL
      exact ⟨_, rfl, h⟩
section
variable {prog : Program} {w : World} {A : Around} {E : Value → Shared → Prop} {s : Shared}
theorem call_enumerate_tuple {l : Addr} {items : Array Value} {Q : Value → Shared → Prop} (hL : s.heap.IsTuple l items)
    (h : ∀ h', IsEnum h' (s.heap.objs.size + 1) s.heap.objs.size 0 .none → h'.IsTupleIter s.heap.objs.size l 0 → h'.objs.size = s.heap.objs.size + 2 →
      (∀ b o, s.heap.get? b = some o → h'.get? b = some o) → Q (.ref (s.heap.objs.size + 1)) { s with heap := h' }) :
    wpAny (model prog w) A (call (.type "enumerate") [.ref l]) Q E s := by
  refine callType_new F.called_enumerate (by decide) (F.typeCall_enumerate_1 _) (F.newCall_enumerate_1 _) (fun obj => F.args_object_init_2 obj _) F.entry_enumerate_new
    (meets_enumerate_newT l items) ⟨hL, ?_⟩
  have hz : (s.heap.push { cls := .type "tuple_iterator", data := .fields #[.ref l, .int 0 0] }).objs.size = s.heap.objs.size + 1 := Heap.size_push ..
  show _ ∧ _
  rw [hz]
  have he : IsEnum ((s.heap.push { cls := .type "tuple_iterator", data := .fields #[.ref l, .int 0 0] }).push
      { cls := .type "enumerate", data := .fields #[.none, .bool false, .ref s.heap.objs.size, rawInt 0, .none, .none] }) (s.heap.objs.size + 1) s.heap.objs.size 0 .none := by
    have := Heap.get?_push_size (s.heap.push { cls := .type "tuple_iterator", data := .fields #[.ref l, .int 0 0] })
      (o := { cls := .type "enumerate", data := .fields #[.none, .bool false, .ref s.heap.objs.size, rawInt 0, .none, .none] }) rfl
    rw [hz] at this; exact this
  refine ⟨⟨_, he, rfl⟩, h _ he ⟨_, Heap.get?_push_of_some _ (Heap.get?_push_size _ rfl), rfl, rfl⟩ (by rw [Heap.size_push, hz]) fun b o x => Heap.get?_push_of_some _ (Heap.get?_push_of_some _ x)⟩
end
end PySem
namespace L2
open PySem PySem.Spec PyProof.Rows
def IteT (K : PySem.W.Frag) (a : Addr) : It :=
  ⟨fun i H => ∃ (xs : List V) (x : V), SqT K H a xs ∧ xs[i]? = some x, fun i H v H' => ∃ T x, v = .ref T ∧ H T = none ∧ H' = upd H T (.tup [.int (i : Nat), x]) ∧ ∀ xs, SqT K H a xs → xs[i]? = some x, fun i H => ∃ xs : List V, SqT K H a xs ∧ xs.length ≤ i⟩
theorem turn_enumT {P : Program} {w : World} {K : PySem.W.Frag} {elts : List Expr} {kk : Nat} {tpos : Pos} (a e it : Addr) (hai : a ≠ it) (hae : a ≠ e) :
    Turn P w K (.Tuple elts kk tpos) (IteT K a) [e, it] e (fun i h => (∃ old, IsEnum h e it ((i : Nat) : Int) old) ∧ h.IsTupleIter it a i ∧ e ≠ it) where
  mem := by simp
  obj := fun i h st b hb => by
    obtain ⟨⟨old, he⟩, ⟨o, ho, hc, hd⟩, _⟩ := st
    have e' : b = e ∨ b = it := by simpa using hb
    rcases e' with z | z
    · rw [z]; exact ⟨_, he, fun v q => nomatch q⟩
    · rw [z]; exact ⟨o, ho, fun v q => by rw [hd] at q; cases q⟩
  keep := fun i h h' st k => let ⟨⟨old, he⟩, hi, hne⟩ := st; ⟨⟨old, k e (by simp) _ he⟩, hi.at fun o q => k it (by simp) o q, hne⟩
  item := by
    intro X hP hw hK hc i pins s σ H E I hf st hg
    subst hP hw hK
    obtain ⟨⟨old, he⟩, hit, hne⟩ := st
    obtain ⟨xs, x, hq, hx⟩ := hg
    obtain ⟨its, rv, p, hz⟩ := I.tuple hq
    obtain ⟨u, hu, ru⟩ := rv.get hx
    have hel : e < s.heap.objs.size := Heap.lt_size he
    have hil : it < s.heap.objs.size := by obtain ⟨_, q, _⟩ := hit; exact Heap.lt_size q
    have hiu : i < its.length := (List.getElem?_eq_some_iff.mp hu).1
    have hh : X.A.in1.handled = none := I.ok.hd hc
    refine wpAny_pyNext_enum_itemD (Draws.tuple (prog := X.prog) (w := X.w) (A := X.A.in1) hh it a hai its.toArray) he ⟨hit, p⟩ (by simpa using hiu) hne (by simp [hne, Ne.symm hae]) fun x' h' tk hP ho st' hT hsz hk => ?_
    have ex : x' = u := by
      have h1 : its[i]? = some x' := by simpa using hP
      rw [hu] at h1
      exact (Option.some.inj h1).symm
    subst ex
    refine ⟨_, rfl, wpAny_letOwnedTupleGo_enum (s := { s with heap := h', toks := tk + 1 }) ho fun h'' he' sb => ?_⟩
    have hT2 : h''.get? s.heap.objs.size = some { cls := .type "tuple", data := .seq #[.int i tk, x'] } := (sb.2 _ (Nat.ne_of_gt hel)).trans hT
    have new : ObjOk X.prog X.w (upd H s.heap.objs.size (.tup [.int (i : Nat), x])) h'' s.heap.objs.size (.tup [.int (i : Nat), x]) :=
      ⟨by show 2 ≤ sizeLine; decide, [.int i tk, x'], .cons ⟨_, rfl⟩ (.cons ru .nil), ⟨_, hT2, rfl, _, rfl⟩⟩
    have I1 : Inv X pins σ (upd H s.heap.objs.size (.tup [.int (i : Nat), x])) { s with heap := h'', toks := tk + 1 } :=
      I.turnedNew (t' := tk + 1) (ch := [e, it]) (fun b ob hb q => (sb.2 b (fun z => hb (by simp [z]))).trans (hk b ob (fun z => hb (by simp [z])) (fun z => hb (by simp [z])) q)) hf (Nat.le_refl _) new
    refine ⟨.ref s.heap.objs.size, _, I1, rfl, ⟨_, x, rfl, I.hok.fresh (Nat.le_refl _), rfl, fun ys hy => by rw [I.tuple_inj hy hq]; exact hx⟩, ⟨⟨x', ?_⟩, st'.1.at fun o q => (sb.2 it (Ne.symm hne)).trans q, hne⟩, fun b hb => ?_⟩
    · have e1 : ((i + 1 : Nat) : Int) = (i : Int) + 1 := by omega
      rw [e1]; exact he'
    · have hb' : b < s.heap.objs.size := by
        have e' : b = e ∨ b = it := by simpa using hb
        rcases e' with z | z
        · rw [z]; exact hel
        · rw [z]; exact hil
      rw [upd_ne (Nat.ne_of_lt hb')]
      exact (hf b hb).1
  done := by
    intro X hP hw hK hc i pins s σ H E I hf st hg
    subst hP hw hK
    obtain ⟨⟨old, he⟩, hit, hne⟩ := st
    obtain ⟨xs, hq, hx⟩ := hg
    obtain ⟨its, rv, p, hz⟩ := I.tuple hq
    obtain ⟨f0, f1, f2, f3, f4, f5⟩ := hf it (by simp)
    have hl := rv.length
    have hT : s.TypeIs (.ref e) "enumerate" := ⟨_, he, rfl⟩
    unfold pyNext
    refine wpAny_bind (wpAny_attempt (wpAny_callSpecial?_slot (name := Str.ofString "__next__") hT PySem.F.slot_enumerate_next
      (wpAny_call_entry PySem.F.slot_enumerate_next hT PySem.F.entry_enumerate_next ?_ (PySem.F.args_enumerate_next_1 _))))
    show wpAny _ _ (field (.ref e) 2 >>= _) _ _ _
    refine wpAny_bind (wpAny_field he rfl (x := .ref it) rfl ?_)
    refine wpAny_bind (wpAny_nextOf_tuple_end (I.ok.hd hc) hit p (by simp; omega) fun h' x he' hx' => ?_)
    obtain ⟨o, ho, hc⟩ := hx'
    refine wpAny_bind (wpAny_isInstance (T := "StopIteration") (b := true) ⟨o, ho, hc⟩ isSubtype_stop ?_)
    exact wpAny_pure ⟨rfl, I.turned (t' := s.toks) (fun b o hb q => he' b o hb q) f0 f1 f3 f4 f5⟩
  self := fun A i s Q E st h => let ⟨⟨_, he⟩, _⟩ := st; wpAny_pyIter_enum he h
def iEnumT (K : PySem.W.Frag) (ta : TA) : TI := fun σ H R => ta σ H fun vs H1 => ∃ a xs, vs = [.ref a] ∧ SqT K H1 a xs ∧ R (IteT K a) H1
theorem pi_enumT {X : Cx} {e : Expr} {ta : TA} {p pos tpos : Pos} {elts : List Expr} {kk : Nat} (hg : Gl X "enumerate") (hm : X.mg "enumerate" = none) (ha : PA X [e] ta) (hs : starEach [e] X.env = [(false, eval e X.env)] := by rfl) :
    PI X (.Tuple elts kk tpos) (.Call (.Name "enumerate" p) [e] [] pos) (iEnumT X.K ta) := by
  refine ⟨fun pins s σ H R I h => ?_⟩
  refine Call_ (ld_blt I hg hm boot_enumerate (PyProof.Rows.callWith_type1 (thn (ha.run pos pins s σ H _ I h) fun us s1 ⟨vs, H1, I1, r1, q1⟩ => ?_) hs rfl))
  obtain ⟨a, xs, ex, hq, q⟩ := q1
  subst ex
  cases r1 with
  | cons r rr =>
    cases rr
    cases r
    obtain ⟨its, rv, p', hz⟩ := I1.tuple hq
    have hal : a < s1.heap.objs.size := by obtain ⟨_, q, _⟩ := p'; exact Heap.lt_size q
    refine call_enumerate_tuple (items := its.toArray) p' fun h' he hit hsz hk => wpAny_pyIter_enum he ?_
    have I2 : Inv X pins σ H1 { s1 with heap := h' } := I1.kept (t' := s1.toks) hk
    refine ⟨s1.heap.objs.size + 1, [s1.heap.objs.size + 1, s1.heap.objs.size], _, _, H1, rfl, I2, turn_enumT a (s1.heap.objs.size + 1) s1.heap.objs.size (Nat.ne_of_lt hal) (Nat.ne_of_lt (Nat.lt_succ_of_lt hal)), ⟨⟨.none, he⟩, hit, Nat.succ_ne_self _⟩, fun b hb => ?_, q⟩
    have e' : b = s1.heap.objs.size + 1 ∨ b = s1.heap.objs.size := by simpa using hb
    have hle : s1.heap.objs.size ≤ b := by
      rcases e' with z | z
      · rw [z]; exact Nat.le_add_right _ _
      · rw [z]; exact Nat.le_refl _
    exact I1.fpOk hle (I1.hok.fresh hle)
end L2
end
section
set_option Elab.async false
set_option linter.all false
set_option maxRecDepth 100000
set_option maxHeartbeats 400000
namespace IP
open PySem L2 RZ
section
variable {X : Cx} {K : PySem.W.Frag} {tg e e2 : Expr} {f g : Eo} {pos p : Pos}
theorem pair_laid {G : Gx} {A H : Hp} {δ : Env} {τ : L2.St} {T : Addr} {x y : V} {dx dy : D} (R : Rl G A H δ τ) (hT : H T = none) (r1 : Rel G.K A x dx) (r2 : Rel G.K A y dy) :
    ∃ B, Rl G B (upd H T (.tup [x, y])) δ τ ∧ Sub A B ∧ Sub H (upd H T (.tup [x, y])) ∧ Fro A H B ∧ Rel G.K B (.ref T) (.tuple [dx, dy]) := by
  obtain ⟨R4, s4⟩ := R.laid0 (o := .tup [x, y]) hT
  refine ⟨_, R4, s4, Sub.new hT, fun a o e => ?_, .tup upd_same (.cons (r1.sub s4) (.cons (r2.sub s4) .nil))⟩
  by_cases ha : a = T
  · subst ha
    exact .inr hT
  · rw [upd_ne ha] at e
    exact .inl ⟨o, e⟩
theorem enumD_get : ∀ {xs : List D} {k i : Nat}, (enumD k xs)[i]? = (xs[i]?).map fun d => .tuple [.int ((k + i : Nat) : Int), d]
  | [], _, i => by simp [enumD]
  | x :: xs, k, 0 => by simp [enumD]
  | x :: xs, k, i + 1 => by
    rw [enumD, List.getElem?_cons_succ, List.getElem?_cons_succ, enumD_get]
    rw [show k + 1 + i = k + (i + 1) by omega]
theorem enumD_length : ∀ (xs : List D) (k : Nat), (enumD k xs).length = xs.length
  | [], _ => rfl
  | x :: xs, k => by rw [enumD, List.length_cons, List.length_cons, enumD_length xs]
theorem iw_enumT {G : Gx} {H0 : Hp} {σ : L2.St} {p : Addr} {ys : List V} {xs : List D} (h : SqT G.K H0 p ys) (r : RelAll G.K H0 ys xs) {ow : Option Nat} : IW G H0 σ (IteT G.K p) (enumD 0 xs) ow where
  goes := fun i A H δ τ R s hk st hi => by
    have hl : i < ys.length := by
      rw [enumD_length] at hi
      rw [r.length]
      exact hi
    exact ⟨ys, ys[i], SqT.sub R.sub (SqT.sub s h), by simp [hl]⟩
  stops := fun A H δ τ R s hk st => ⟨ys, SqT.sub R.sub (SqT.sub s h), by rw [enumD_length, r.length]; exact Nat.le_refl _⟩
  yields := fun i A H δ τ x H' R s hk st hi y => by
    obtain ⟨T, z, rfl, hT, rfl, hz⟩ := y
    obtain ⟨d, h1, h2⟩ := r.getV (hz ys (SqT.sub R.sub (SqT.sub s h)))
    obtain ⟨B, a1, a2, a3, a4, a5⟩ := pair_laid R hT (.int ((i : Nat) : Int)) (h2.sub s)
    exact ⟨B, _, a1, a2, a3, a4, by rw [enumD_get, h1, Nat.zero_add]; rfl, a5⟩
theorem still_len {δ : Env} {xs : List D} {ow : Option Nat} (h : still δ (enumD 0 xs) ow = true) (hn : ow = none) : still δ xs ow = true := by
  subst hn
  rfl
theorem iw_enumL {G : Gx} {H0 : Hp} {σ : L2.St} {p : Addr} {xs : List D} (h : Rel G.K H0 (.ref p) (.list xs)) : IW G H0 σ (Ite G.K p) (enumD 0 xs) none where
  goes := fun i A H δ τ R s hk st hi => by
    cases h with
    | lst h1 h2 =>
      rename_i ys
      have hl : i < ys.length := by
        rw [enumD_length] at hi
        rw [h2.length]
        exact hi
      exact ⟨ys, ys[i], SqL.of (R.sub _ _ (s _ _ h1)), by simp [hl]⟩
  stops := fun A H δ τ R s hk st => by
    cases h with
    | lst h1 h2 => exact ⟨_, SqL.of (R.sub _ _ (s _ _ h1)), by rw [enumD_length, h2.length]; exact Nat.le_refl _⟩
  yields := fun i A H δ τ x H' R s hk st hi y => by
    cases h with
    | lst h1 h2 =>
      obtain ⟨T, z, rfl, hT, rfl, hz⟩ := y
      obtain ⟨d, h3, h4⟩ := h2.getV (hz _ (SqL.of (R.sub _ _ (s _ _ h1))))
      obtain ⟨B, a1, a2, a3, a4, a5⟩ := pair_laid R hT (.int ((i : Nat) : Int)) (h4.sub s)
      exact ⟨B, _, a1, a2, a3, a4, by rw [enumD_get, h3, Nat.zero_add]; rfl, a5⟩
/-- enumerate(e), e data -/
theorem xi_enum {elts : List Expr} {kk : Nat} {tpos : Pos} (hg : Gl X "enumerate") (hm : X.mg "enumerate" = none) (ha : XO X e f) (hs : starEach [e] X.env = (false, eval e X.env) :: starEach [] X.env := by rfl) : XI X (.Tuple elts kk tpos) (.Call (.Name "enumerate" p) [e] [] pos) (iEnum f) :=
  PI.or_ (pi_enum hg hm (pa_cons ha pa_nil hs) hs) (pi_enumT hg hm (pa_cons ha pa_nil hs) hs) fun σ H Rr ⟨G, H0, δ, xs, ow, δ', eK, R, e0, q⟩ => by
    simp only [iEnum, Option.bind_eq_some_iff] at e0
    obtain ⟨⟨o, δ1⟩, e1, e2⟩ := e0
    cases o with
    | «at» i => cases e2
    | val d =>
      cases d with
      | list ds =>
        cases e2
        refine .inl ⟨G, H0, δ, _, _, eK, R, e1, fun v H0' H' R1 s1 k1 => ?_⟩
        have k1' : Rel G.K H0' v (.list ds) := k1
        cases k1' with
        | lst h1 h2 => exact ⟨_, _, rfl, SqL.of (R1.sub _ _ h1), by rw [← eK]; exact q _ _ _ R1 s1 (iw_enumL (.lst h1 h2))⟩
      | tuple ds =>
        cases e2
        refine .inr ⟨G, H0, δ, _, _, eK, R, e1, fun v H0' H' R1 s1 k1 => ?_⟩
        have k1' : Rel G.K H0' v (.tuple ds) := k1
        cases k1' with
        | tup h1 h2 => exact ⟨_, _, rfl, by rw [← eK]; exact SqT.of (R1.sub _ _ h1), by rw [← eK]; exact q _ _ _ R1 s1 (iw_enumT (SqT.of h1) h2)⟩
      | _ => cases e2
theorem zipD_get : ∀ {xs ys : List D} {i : Nat}, (zipD xs ys)[i]? = (xs[i]?).bind fun x => (ys[i]?).map fun y => .tuple [x, y]
  | [], ys, i => by simp [zipD]
  | x :: xs, [], i => by
    rw [zipD]
    · cases (x :: xs)[i]? <;> simp
    · simp
  | x :: xs, y :: ys, 0 => by simp [zipD]
  | x :: xs, y :: ys, i + 1 => by rw [zipD, List.getElem?_cons_succ, List.getElem?_cons_succ, List.getElem?_cons_succ, zipD_get]
theorem zipD_length : ∀ (xs ys : List D), (zipD xs ys).length = min xs.length ys.length
  | [], ys => by simp [zipD]
  | x :: xs, [] => by simp [zipD]
  | x :: xs, y :: ys => by
    rw [zipD, List.length_cons, List.length_cons, List.length_cons, zipD_length xs ys]
    omega
theorem iw_zipT {G : Gx} {H0 : Hp} {σ : L2.St} {p q : Addr} {us vs : List V} {xs ys : List D} (h1 : H0 p = some (.tup us)) (r1 : RelAll G.K H0 us xs) (h2 : H0 q = some (.tup vs)) (r2 : RelAll G.K H0 vs ys) : IW G H0 σ (ItzT G.K p q) (zipD xs ys) none where
  goes := fun i A H δ τ R s hk st hi => by
    rw [zipD_length] at hi
    have l1 := r1.length
    have l2 := r2.length
    exact ⟨us, vs, us[i], vs[i], SqT.of (R.sub _ _ (s _ _ h1)), SqT.of (R.sub _ _ (s _ _ h2)), by simp, by simp⟩
  stops := fun A H δ τ R s hk st => ⟨us, vs, SqT.of (R.sub _ _ (s _ _ h1)), SqT.of (R.sub _ _ (s _ _ h2)), by
    rw [zipD_length, r1.length, r2.length]
    omega⟩
  yields := fun i A H δ τ x H' R s hk st hi y => by
    obtain ⟨T, z, w, rfl, hT, rfl, hz, hw⟩ := y
    obtain ⟨d, a1, a2⟩ := r1.getV (hz us (SqT.of (R.sub _ _ (s _ _ h1))))
    obtain ⟨d', b1, b2⟩ := r2.getV (hw vs (SqT.of (R.sub _ _ (s _ _ h2))))
    obtain ⟨B, c1, c2, c3, c4, c5⟩ := pair_laid R hT (a2.sub s) (b2.sub s)
    exact ⟨B, _, c1, c2, c3, c4, by rw [zipD_get, a1, b1]; rfl, c5⟩
theorem iw_zipL {G : Gx} {H0 : Hp} {σ : L2.St} {p q : Addr} {xs ys : List D} (h1 : Rel G.K H0 (.ref p) (.list xs)) (h2 : Rel G.K H0 (.ref q) (.list ys)) : IW G H0 σ (Itz G.K p q) (zipD xs ys) none := by
  cases h1 with
  | lst h1 r1 =>
    cases h2 with
    | lst h2 r2 =>
      rename_i us vs
      exact {
        goes := fun i A H δ τ R s hk st hi => by
          rw [zipD_length] at hi
          have l1 := r1.length
          have l2 := r2.length
          exact ⟨us, vs, us[i], vs[i], SqL.of (R.sub _ _ (s _ _ h1)), SqL.of (R.sub _ _ (s _ _ h2)), by simp, by simp⟩
        stops := fun A H δ τ R s hk st => ⟨us, vs, SqL.of (R.sub _ _ (s _ _ h1)), SqL.of (R.sub _ _ (s _ _ h2)), by
          rw [zipD_length, r1.length, r2.length]
          omega⟩
        yields := fun i A H δ τ x H' R s hk st hi y => by
          obtain ⟨T, z, w, rfl, hT, rfl, hz, hw⟩ := y
          obtain ⟨d, a1, a2⟩ := r1.getV (hz us (SqL.of (R.sub _ _ (s _ _ h1))))
          obtain ⟨d', b1, b2⟩ := r2.getV (hw vs (SqL.of (R.sub _ _ (s _ _ h2))))
          obtain ⟨B, c1, c2, c3, c4, c5⟩ := pair_laid R hT (a2.sub s) (b2.sub s)
          exact ⟨B, _, c1, c2, c3, c4, by rw [zipD_get, a1, b1]; rfl, c5⟩ }
theorem xi_zip {elts : List Expr} {kk : Nat} {tpos : Pos} (hg : Gl X "zip") (hm : X.mg "zip" = none) (ha : XO X e f) (hb : XO X e2 g) (hs : starEach [e, e2] X.env = (false, eval e X.env) :: starEach [e2] X.env := by rfl) (hs2 : starEach [e2] X.env = (false, eval e2 X.env) :: starEach [] X.env := by rfl)
    (h3 : (backTo pos (starEach [e2] X.env)).any (·.1) = false := by rfl) :
    XI X (.Tuple elts kk tpos) (.Call (.Name "zip" p) [e, e2] [] pos) (iZip f g) :=
  (pi_zipA hg hm (pa_cons ha (pa_cons hb pa_nil hs2) hs) hs h3).weak fun σ H Rr ⟨G, H0, δ, xs, ow, δ', eK, R, e0, q⟩ => by
    simp only [iZip, Option.bind_eq_some_iff] at e0
    obtain ⟨⟨o, δ1⟩, e1, ⟨o2, δ2⟩, e2, e3⟩ := e0
    refine ⟨G, H0, δ, o, δ1, eK, R, e1, fun v H0' H' R1 s1 k1 => ?_⟩
    refine ⟨G, H0', δ1, o2, δ2, eK, R1, e2, fun w A B R2 s2 k2 => ?_⟩
    dsimp only at e3
    split at e3
    · cases e3
      have k1' : Rel G.K A v (.list _) := Rel.sub s2 k1
      have k2' : Rel G.K A w (.list _) := k2
      cases k1' with
      | lst h1 r1 =>
        rename_i p1 us
        cases k2' with
        | lst h2 r2 =>
          rename_i p2 vs
          refine ⟨p1, p2, us, vs, rfl, .inl ⟨SqL.of (R2.sub _ _ h1), SqL.of (R2.sub _ _ h2), ?_⟩⟩
          rw [← eK]
          exact q _ _ _ R2 (s1.trans s2) (iw_zipL (.lst h1 r1) (.lst h2 r2))
    · cases e3
      have k1' : Rel G.K A v (.tuple _) := Rel.sub s2 k1
      have k2' : Rel G.K A w (.tuple _) := k2
      cases k1' with
      | tup h1 r1 =>
        rename_i p1 us
        cases k2' with
        | tup h2 r2 =>
          rename_i p2 vs
          refine ⟨p1, p2, us, vs, rfl, .inr ⟨?_, ?_, ?_⟩⟩
          · rw [← eK]
            exact SqT.of (R2.sub _ _ h1)
          · rw [← eK]
            exact SqT.of (R2.sub _ _ h2)
          · rw [← eK]
            exact q _ _ _ R2 (s1.trans s2) (iw_zipT h1 r1 h2 r2)
    · cases e3
theorem downD_get {hi : Int} {n i : Nat} (h : i < n) : (downD hi n)[i]? = some (.int (hi - (i : Nat))) := by
  unfold downD
  simp [h]
theorem downD_length (hi : Int) (n : Nat) : (downD hi n).length = n := by
  unfold downD
  simp
theorem iw_down {G : Gx} {H0 : Hp} {σ : L2.St} {hi : Int} {n : Nat} : IW G H0 σ (Itc hi (-1) n) (downD hi n) none where
  goes := fun i A H δ τ R s hk st h => by
    rw [downD_length] at h
    exact h
  stops := fun A H δ τ R s hk st => by
    rw [downD_length]
    exact Nat.le_refl n
  yields := fun i A H δ τ x H' R s hk st h y => by
    obtain ⟨rfl, rfl⟩ := y
    rw [downD_length] at h
    refine ⟨A, _, R, Sub.refl _, Sub.refl _, Fro.refl, downD_get h, ?_⟩
    rw [show hi + (i : Int) * -1 = hi - (i : Int) by omega]
    exact .int _
/-- range(a, b, -1) -/
theorem xi_down {a b : Expr} {u : Nat} {p1 p2 : Pos} (hg : Gl X "range") (hm : X.mg "range" = none) (ha : XO X a f) (hb : XO X b g)
    (hs : starEach [a, b, .UnaryOp .USub (.Constant (.int 1) u p1) p2] X.env = (false, eval a X.env) :: starEach [b, .UnaryOp .USub (.Constant (.int 1) u p1) p2] X.env := by rfl)
    (hs2 : starEach [b, .UnaryOp .USub (.Constant (.int 1) u p1) p2] X.env = (false, eval b X.env) :: starEach [.UnaryOp .USub (.Constant (.int 1) u p1) p2] X.env := by rfl)
    (hs3 : starEach [.UnaryOp .USub (.Constant (.int 1) u p1) p2] X.env = (false, eval (.UnaryOp .USub (.Constant (.int 1) u p1) p2) X.env) :: starEach [] X.env := by rfl)
    (h4 : (backTo pos (starEach [b, .UnaryOp .USub (.Constant (.int 1) u p1) p2] X.env)).any (·.1) = false := by rfl) :
    XI X tg (.Call (.Name "range" p) [a, b, .UnaryOp .USub (.Constant (.int 1) u p1) p2] [] pos) (iDown f g) :=
  (pi_range3 hg hm (pa_cons ha (pa_cons hb (pa_cons (pe_un un_neg pe_int) pa_nil hs3) hs2) hs) hs h4).weak fun σ H Rr ⟨G, H0, δ, xs, ow, δ', eK, R, e0, q⟩ => by
    simp only [iDown, Option.bind_eq_some_iff] at e0
    obtain ⟨⟨o, δ1⟩, e1, ⟨o2, δ2⟩, e2, e3⟩ := e0
    refine ⟨G, H0, δ, o, δ1, eK, R, e1, fun v H0' H' R1 s1 k1 => ?_⟩
    refine ⟨G, H0', δ1, o2, δ2, eK, R1, e2, fun w A B R2 s2 k2 => ?_⟩
    cases o with
    | «at» i => cases e3
    | val d =>
      cases d with
      | int j =>
        cases o2 with
        | «at» i => cases e3
        | val d =>
          cases d with
          | int l =>
            dsimp only at e3
            split at e3
            · rename_i hj
              cases e3
              cases k1
              cases k2
              exact ⟨1, rfl, j, l, -1, (j - l).toNat, rfl, RgC.neg (by omega) (by omega) (by omega) (by omega), q _ _ _ R2 (s1.trans s2) iw_down⟩
            · cases e3
          | _ => cases e3
      | _ => cases e3
end
end IP
end
section
set_option Elab.async false
set_option linter.all false
set_option maxRecDepth 100000
set_option maxHeartbeats 400000
namespace IP
open PySem L2
theorem spI_none {K : PySem.W.Frag} {vs : List V} {H : Hp} {Q : VK} {E : XK} (h : spI K (fun _ _ => none) vs H Q E) : False := by
  obtain ⟨_, _, _, _, h⟩ := h
  rcases h with ⟨_, e, _⟩ | ⟨_, _, _, _, _, _, _, _, _, _, e, _⟩
  · cases e
  · cases e
theorem fn_none {P : Program} {w : World} {K : PySem.W.Frag} {mg : Str → Option Value} {base : Heap} {f : Addr} {fd : FuncData} {ps : List Str} : FnOk P w K mg base CX0 0 f fd ps (spI K fun _ _ => none) :=
  ⟨fun vs H Q E h => (spI_none h).elim, fun A outer s H args us vs Q E _ _ _ _ h => (spI_none h).elim⟩
theorem law_end {K : PySem.W.Frag} {c : Fnc} {H : Hp} {a : Addr} {ns : List Int} {E : XK} (hS : SqL K H a (ns.map V.int)) (h : c none [scr ns] = some (.dat (.bool true), none)) : spI K c [.ref a] H (fun v _ => v = .bl true) E :=
  ⟨H, _, _, Sub.refl _, .inl ⟨.cons (.scr hS) .nil, h, fun v H0' H' _ _ _ _ k => by
    cases k
    rfl⟩⟩
end IP
/-! ### the head's hook, with one Bool more -/
namespace IPL
open PySem PySem.Spec PyProof.Rows L2 IP
def obsE (n : Nat) (fa : List He.Fa) (fn : List He.DefD) (ex : PySem.W.Frag → Bool) (g : Addr → Option Obj) : He.AlD × Bool := (He.obsD fa fn (He.frG g (He.asD g n)), ex (He.frG g (He.asD g n)))
def hookE (n : Nat) (fa : List He.Fa) (fn : List He.DefD) (ex : PySem.W.Frag → Bool) : PySem.W.Hook where
  α := He.AlD × Bool
  obs := fun s => obsE n fa fn ex s.heap.get?
  val := fun _ => (He.valD fn, true)
  says := fun _ h => ∃ K : PySem.W.Frag, K.In h ∧ He.SaysD fa fn K ∧ ex K = true
  of := fun _ _ e => ⟨_, He.frG_in, congrArg (fun z : He.AlD × Bool => z.1) e, congrArg (fun z : He.AlD × Bool => z.2) e⟩
  keeps := fun _ _ _ ⟨K, hK, c⟩ k => ⟨K, PySem.W.Frag.In.keeps hK k, c⟩
theorem obsE_eq {n : Nat} {fa : List He.Fa} {fn : List He.DefD} {ex : PySem.W.Frag → Bool} {g : Addr → Option Obj} {s : Shared} (h : ∀ a, g a = s.heap.get? a) : obsE n fa fn ex g = (hookE n fa fn ex).obs s := by
  have e : g = s.heap.get? := funext h
  rw [e] <;> rfl
end IPL
end
section
set_option linter.all false
/-! AugD: x[i] op= e, as a total function. -/
namespace IP
open PySem
/-- the item of the list of a variable -/
@[simp] def ownGet (δ : Env) (i : Nat) (k : Int) : Option D := match δ[i]? with
  | some (.own xs) => atD xs k
  | some (.prm xs) => atD xs k
  | _ => none
/-- x[i] op= e, of ints: the place, the item, e, the store -/
@[simp] def sAugIx (i : Nat) (ix : Eo) (op : Int → Int → Int) (f : Eo) : Es := fun δ => (if ownAt δ i = true then ix δ else none).bind fun q => match q.1 with
  | .val (.int k) => (ownGet q.2 i k).bind fun d => match d with
    | .int a => (f q.2).bind fun p => match p.1 with
      | .val (.int b) => (withOwn p.2 i fun xs => (ixN xs.length k).map fun j => xs.set j (.int (op a b))).map fun δ' => (.nx, δ')
      | _ => none
    | _ => none
  | _ => none
end IP
end
section
set_option Elab.async false
set_option linter.all false
set_option maxRecDepth 100000
set_option maxHeartbeats 400000
/-! Snd12: x[i] op= e. -/
namespace L2
open PySem PySem.Spec PyProof.Rows
theorem get_list {X : Cx} : PGet X (rIxL X.K) := by
  intro pins s σ H x y v u Q I rx ry h
  obtain ⟨p, xs, i, z, rfl, rfl, hq, he, q⟩ := h
  cases rx
  obtain ⟨t, rfl⟩ := ry
  obtain ⟨its, r, pl, hz⟩ := I.list hq
  obtain ⟨j, h1, h2, h3, h4, h5⟩ := atI_get he
  obtain ⟨w, ew, rw'⟩ := r.get h2
  have hl := r.length
  have hn := line63
  have fin : EP X pins σ Q w s := ⟨z, H, I, rw', q⟩
  by_cases h0 : 0 ≤ i
  · have hj : i.toNat = j := by
      rw [seqIndex_of h0 h5] at h1
      exact Option.some.inj h1
    exact wpAny_getItem_list pl.isList h0 (by omega) (by rw [hj]; simpa using ew) fin
  · have hj : (i + (its.toArray.size : Int)).toNat = j := by
      rw [seqIndex_neg (by omega) h4] at h1
      rw [List.size_toArray, ← hl]
      exact Option.some.inj h1
    exact wpAny_getItem_list_neg pl.isList (by omega) (by rw [List.size_toArray] <;> omega) (by omega) (by rw [hj]; simpa using ew) fin
end L2
namespace IP
open PySem L2
section
variable {X : Cx} {K : PySem.W.Frag} {e : Expr} {f g : Eo} {pos : Pos}
theorem ownGet_at {G : Gx} {A H : Hp} {δ : Env} {σ : L2.St} {i : Nat} {k : Int} {d : D} {p : Addr} (R : Rl G A H δ σ) (e : ownGet δ i k = some d) (hp : σ[i]? = some (some (.ref p))) : ∃ ws u, H p = some (.lst ws) ∧ atI ws k = some u ∧ Rel G.K A u d := by
  unfold ownGet at e
  cases es : δ[i]? with
  | none =>
    rw [es] at e
    cases e
  | some s =>
    rw [es] at e
    have sj := R.slot i s es
    cases s with
    | own ds =>
      obtain ⟨p', vs, h1, h2, h3⟩ := sj
      rw [hp] at h1
      cases h1
      obtain ⟨u, h4, h5⟩ := atD_rel h3.1 e
      exact ⟨vs, u, h2, h4, h5⟩
    | prm ds =>
      obtain ⟨p', vs, h1, _, h2, h3⟩ := sj
      rw [hp] at h1
      cases h1
      obtain ⟨u, h4, h5⟩ := atD_rel h3.1 e
      exact ⟨vs, u, h2, h4, h5⟩
    | _ => cases e
theorem xs_augIx {i : Nat} {y : Str} {py tp : Pos} {ie : Expr} {op : Operator} {b : Int → Int → Int} (hv : PE X (.Name y py) (tVar i)) (hi : XO X ie g) (h : XO X e f) (ho : PIp X op (ipI b))
    (ha : ∀ ov iv new, augStore ie ov iv new = (do holding [new, ov, iv] (setItem ov iv new); release [new, ov, iv] []; pure .next) := by intros; rfl) :
    XS X (.AugAssign (.Subscript (.Name y py) ie tp) op e pos) (sAugIx i g b f) :=
  (ps_augS hv hi get_list h ho set_list ha).weak fun D σ H ⟨G, H0, δ, o, δ', eK, R, e, q⟩ => by
    simp only [sAugIx, Option.bind_eq_some_iff] at e
    obtain ⟨⟨o2, δ2⟩, e1, e3⟩ := e
    split at e1
    · rename_i hown
      obtain ⟨p, vs, hp, hl⟩ := own_ref R hown
      refine ⟨.ref p, hp, G, H0, δ, o2, δ2, eK, R, e1, fun w A2 H2 R2 s2 k2 => ?_⟩
      cases o2 with
      | «at» _ => cases e3
      | val d2 =>
        cases d2 with
        | int k =>
          cases k2
          simp only [Option.bind_eq_some_iff] at e3
          obtain ⟨d, e4, e5⟩ := e3
          cases d with
          | int a =>
            simp only [Option.bind_eq_some_iff] at e5
            obtain ⟨⟨o3, δ3⟩, e6, e7⟩ := e5
            obtain ⟨ws, u, x1, x2, x3⟩ := ownGet_at R2 e4 hp
            cases x3
            refine ⟨p, ws, k, .int a, rfl, rfl, SqL.of x1, x2, G, A2, δ2, o3, δ3, eK, R2, e6, fun w3 A3 H3 R3 s3 k3 => ?_⟩
            cases o3 with
            | «at» _ => cases e7
            | val d3 =>
              cases d3 with
              | int c =>
                cases k3
                simp only [Option.map_eq_some_iff] at e7
                obtain ⟨δ4, e8, e9⟩ := e7
                cases e9
                obtain ⟨p', xs, ws', ys, y1, y2, y3, y4, y5⟩ := withOwn_at R3 e8
                rw [hp] at y1
                cases y1
                simp only [Option.map_eq_some_iff] at y4
                obtain ⟨j, y6, y7⟩ := y4
                subst y7
                refine ⟨a, c, rfl, rfl, p, ws', k, j, rfl, rfl, y2, by rw [y3.length]; exact y6, ?_⟩
                exact q σ A3 _ (y5 _ (RelAll.set (.int _) j y3)) (s2.trans s3)
              | _ => cases e7
          | _ => cases e5
        | _ => cases e3
    · cases e1
end
end IP
end
section
set_option Elab.async false
set_option linter.all false
set_option maxRecDepth 100000
set_option maxHeartbeats 400000
/-! Snd13: reversed(range(n)). -/
namespace IP
open PySem L2 RZ
section
variable {X : Cx} {K : PySem.W.Frag} {tg e : Expr} {f : Eo} {pos p p2 pos2 : Pos}
theorem xi_revR1 (hg : Gl X "reversed") (hm : X.mg "reversed" = none) (hg2 : Gl X "range") (hm2 : X.mg "range" = none) (ha : XO X e f)
    (hs : starEach [e] X.env = (false, eval e X.env) :: starEach [] X.env := by rfl)
    (hs2 : starEach [.Call (.Name "range" p2) [e] [] pos2] X.env = (false, eval (.Call (.Name "range" p2) [e] [] pos2) X.env) :: starEach [] X.env := by rfl) :
    XI X tg (.Call (.Name "reversed" p) [.Call (.Name "range" p2) [e] [] pos2] [] pos) (iRevR1 f) :=
  (pi_revR hg hm (prg_1 hg2 hm2 ha hs) hs2).weak fun σ H Rr ⟨G, H0, δ, xs, ow, δ', eK, R, e0, q⟩ => by
    simp only [iRevR1, Option.bind_eq_some_iff] at e0
    obtain ⟨⟨o, δ1⟩, e1, e2⟩ := e0
    refine ⟨G, H0, δ, o, δ1, eK, R, e1, fun v H0' H' R1 s1 k1 => ?_⟩
    cases o with
    | «at» i => cases e2
    | val d =>
      cases d with
      | int j =>
        dsimp only at e2
        split at e2
        · rename_i hj
          cases e2
          cases k1
          refine ⟨j, rfl, by omega, by omega, by omega, by omega, ?_⟩
          rw [show (0 : Int) + (((j - 0).toNat : Nat) : Int) - 1 = (j.toNat : Int) - 1 by omega, show (j - 0).toNat = j.toNat by omega]
          exact q _ _ _ R1 s1 iw_down
        · cases e2
      | _ => cases e2
end
end IP
end
section
set_option linter.all false
/-! IQ: more operations on data. -/
namespace IP
open PySem
@[simp] def bXor : D → D → Option Res
  | .int a, .int b => if 0 ≤ a ∧ 0 ≤ b then some (.dat (.int ((a.toNat ^^^ b.toNat : Nat) : Int))) else none
  | _, _ => none
@[simp] def bAnd : D → D → Option Res
  | .int a, .int b => if 0 ≤ a ∧ 0 ≤ b then some (.dat (.int ((a.toNat &&& b.toNat : Nat) : Int))) else none
  | _, _ => none
@[simp] def bShl : D → D → Option Res
  | .int a, .int k => if 0 ≤ k ∧ a.natAbs.log2 + k.toNat < 1000000 then some (.dat (.int (a * 2 ^ k.toNat))) else none
  | _, _ => none
/-- e.bit_length() -/
@[simp] def uBits : D → Option Res
  | .int a => some (.dat (.int ((if a = 0 then 0 else a.natAbs.log2 + 1 : Nat) : Int)))
  | _ => none
/-- math.gcd -/
@[simp] def biGcd : List D → Option Res
  | [.int a, .int b] => some (.dat (.int ((Nat.gcd a.natAbs b.natAbs : Nat) : Int)))
  | _ => none
/-- e[::-1] -/
@[simp] def uRev : D → Option Res
  | .list xs => some (.new xs.reverse)
  | .tuple xs => some (.dat (.tuple xs.reverse))
  | _ => none
/-- tuple(reversed(e)) -/
@[simp] def uTupRev : D → Option Res
  | .list xs => some (.dat (.tuple xs.reverse))
  | _ => none
/-- reversed(e), walked -/
@[simp] def iRevS (f : Eo) : Ei := fun δ => (f δ).bind fun p => match p.1 with
  | .val (.list xs) => some ((xs.reverse, none), p.2)
  | .val (.tuple xs) => some ((xs.reverse, none), p.2)
  | _ => none
end IP
end
section
set_option Elab.async false
set_option linter.all false
set_option maxRecDepth 100000
set_option maxHeartbeats 400000
/-! Snd14: bits, gcd, what is read backward. -/
namespace IP
open PySem L2 RZ
section
variable {K : PySem.W.Frag}
theorem s_xor : OpS K (rI0 fun i j => .int (Builtin.bitXor i j)) bXor := by
  intro G H0 H δ σ x y dx dy res eK R rx ry e Q q
  cases dx <;> cases dy <;> simp only [bXor, reduceCtorEq] at e
  split at e
  · rename_i h
    cases e
    obtain rfl := relT_int rx
    obtain rfl := relT_int ry
    exact ⟨_, _, rfl, rfl, q _ _ _ R (Sub.refl _) (by show ResOk G H0 H δ σ _ (V.int (Builtin.bitXor _ _)); rw [Bits.bitXor_pp h.1 h.2]; exact .int _)⟩
  · cases e
theorem s_and : OpS K (rI0 fun i j => .int (Builtin.bitAnd i j)) bAnd := by
  intro G H0 H δ σ x y dx dy res eK R rx ry e Q q
  cases dx <;> cases dy <;> simp only [bAnd, reduceCtorEq] at e
  split at e
  · rename_i h
    cases e
    obtain rfl := relT_int rx
    obtain rfl := relT_int ry
    exact ⟨_, _, rfl, rfl, q _ _ _ R (Sub.refl _) (by show ResOk G H0 H δ σ _ (V.int (Builtin.bitAnd _ _)); rw [PyProof.Rows.bitAnd_pp h.1 h.2]; exact .int _)⟩
  · cases e
theorem s_shl : OpS K (rI CShl fun i j => .int (i * 2 ^ j.toNat)) bShl := s_int fun a b res e => by
  cases a <;> cases b <;> simp only [bShl, reduceCtorEq, Option.some.injEq] at e
  split at e
  · rename_i h
    cases e
    refine ⟨_, _, rfl, rfl, ⟨h.1, ?_⟩, rfl⟩
    unfold Builtin.Int.intBits
    split <;> omega
  · cases e
variable {X : Cx} {tg e : Expr} {f : Eo} {pos p p2 pos2 : Pos}
theorem x_bits {apos : Pos} (ha : XO X e f) (hbase : attributeBase e "bit_length" X.env (eval e X.env) = eval e X.env := by rfl) (hline : (apos.endLine == pos.line) = true := by rfl) : XV X (.Call (.Attribute e "bit_length" apos) [] [] pos) (fUn uBits f) :=
  (pe_bits ha hbase hline).weak fun σ H Q ⟨G, H0, δ, res, δ', eK, R, e, q⟩ => by
    simp only [fUn, Option.bind_eq_some_iff, Option.map_eq_some_iff] at e
    obtain ⟨⟨o1, δ1⟩, e1, dx, e3, r', e5, e6⟩ := e
    cases e6
    refine ⟨G, H0, δ, o1, δ1, eK, R, e1, fun v H0' H' R1 s1 k1 => ?_⟩
    cases dx <;> simp only [uBits, reduceCtorEq, Option.some.injEq] at e5
    subst e5
    obtain rfl := relT_int (R1.rd k1 e3)
    refine ⟨_, rfl, ?_⟩
    rename_i i
    have ei : (Builtin.Int.intBits i : Nat) = (if i = 0 then 0 else i.natAbs.log2 + 1 : Nat) := by
      unfold Builtin.Int.intBits
      by_cases h : i = 0
      · subst h; rfl
      · rw [if_neg h, if_neg (by simpa using h)]
    rw [ei]
    exact q _ _ _ R1 s1 (.int _)
theorem s_gcd : BiS K rGcd biGcd := by
  intro G H0 H δ σ vs ds res eK R r e Q q
  unfold biGcd at e
  split at e
  · cases e
    obtain ⟨v, w, rfl, h, h'⟩ := two r
    obtain rfl := relT_int h
    obtain rfl := relT_int h'
    exact ⟨_, _, rfl, q _ _ _ R (Sub.refl _) (.int _)⟩
  · cases e
theorem x_gcd {A : Ea} {x : Str} {es : List Expr} {a : Expr} (hg : Gl X x) (hm : X.mg x = some (.builtin "math.gcd")) (ha : XA X (a :: es) A) (hdb : (x == ("__debug__" : Str)) = false := by decide)
    (h1 : starEach (a :: es) X.env = (false, eval a X.env) :: starEach es X.env := by rfl) (h2 : (backTo pos (starEach es X.env)).any (·.1) = false := by rfl) : XV X (.Call (.Name x p) (a :: es) [] pos) (vBi biGcd A) :=
  (pe_callBfun cr_gcd hg hm ha hdb h1 h2).weak fun _ _ _ h => bi_read s_gcd h
theorem s_abs : BiS K (fun xs H Q => ∃ i, xs = [.int i] ∧ Q (.int (if i < 0 then -i else i)) H) biAbs := by
  intro G H0 H δ σ vs ds res eK R r e Q q
  unfold biAbs at e
  split at e
  · cases e
    obtain ⟨v, rfl, h⟩ := one r
    obtain rfl := relT_int h
    exact ⟨_, rfl, q _ _ _ R (Sub.refl _) (.int _)⟩
  · cases e
/-! ### reversed -/
theorem iw_revT {G : Gx} {H0 : Hp} {σ : L2.St} {p : Addr} {ys : List V} {xs : List D} (h : SqT G.K H0 p ys) (r : RelAll G.K H0 ys xs) : IW G H0 σ (RT.ItvT G.K p ys.length) xs.reverse none where
  goes := fun i A H δ τ R s hk st hi => by
    rw [List.length_reverse] at hi
    have l := r.length
    exact ⟨by omega, ys, ys[ys.length - 1 - i]'(by omega), SqT.sub R.sub (SqT.sub s h), List.getElem?_eq_getElem (by omega)⟩
  stops := fun A H δ τ R s hk st => by
    rw [List.length_reverse]
    exact Nat.le_of_eq r.length
  yields := fun i A H δ τ x H' R s hk st hi y => by
    rw [List.length_reverse] at hi
    have l := r.length
    obtain ⟨rfl, hz⟩ := y
    obtain ⟨d, h1, h2⟩ := r.getV (hz ys (SqT.sub R.sub (SqT.sub s h)))
    exact ⟨A, d, R, Sub.refl _, Sub.refl _, Fro.refl, by rw [List.getElem?_reverse hi, ← l]; exact h1, h2.sub s⟩
theorem iw_revL {G : Gx} {H0 : Hp} {σ : L2.St} {p : Addr} {ys : List V} {xs : List D} (h : H0 p = some (.lst ys)) (r : RelAll G.K H0 ys xs) : IW G H0 σ (Itv G.K p ys.length) xs.reverse none where
  goes := fun i A H δ τ R s hk st hi => by
    rw [List.length_reverse] at hi
    have l := r.length
    exact ⟨by omega, ys, ys[ys.length - 1 - i]'(by omega), SqL.of (R.sub _ _ (s _ _ h)), List.getElem?_eq_getElem (by omega)⟩
  stops := fun A H δ τ R s hk st => by
    rw [List.length_reverse]
    exact Nat.le_of_eq r.length
  yields := fun i A H δ τ x H' R s hk st hi y => by
    rw [List.length_reverse] at hi
    have l := r.length
    obtain ⟨rfl, hz⟩ := y
    obtain ⟨d, h1, h2⟩ := r.getV (hz ys (SqL.of (R.sub _ _ (s _ _ h))))
    exact ⟨A, d, R, Sub.refl _, Sub.refl _, Fro.refl, by rw [List.getElem?_reverse hi, ← l]; exact h1, h2.sub s⟩
theorem xi_revS (hg : Gl X "reversed") (hm : X.mg "reversed" = none) (ha : XO X e f) (hs : starEach [e] X.env = (false, eval e X.env) :: starEach [] X.env := by rfl) : XI X tg (.Call (.Name "reversed" p) [e] [] pos) (iRevS f) :=
  (RT.pi_revA hg hm ha hs).weak fun σ H Rr ⟨G, H0, δ, xs, ow, δ', eK, R, e0, q⟩ => by
    simp only [iRevS, Option.bind_eq_some_iff] at e0
    obtain ⟨⟨o, δ1⟩, e1, e2⟩ := e0
    cases o with
    | «at» i => cases e2
    | val d =>
      cases d with
      | list ds =>
        cases e2
        refine ⟨G, H0, δ, _, _, eK, R, e1, fun v H0' H' R1 s1 k1 => ?_⟩
        have k1' : Rel G.K H0' v (.list ds) := k1
        cases k1' with
        | lst h1 h2 => exact ⟨_, _, rfl, .inl ⟨SqL.of (R1.sub _ _ h1), by rw [← eK]; exact q _ _ _ R1 s1 (iw_revL h1 h2)⟩⟩
      | tuple ds =>
        cases e2
        refine ⟨G, H0, δ, _, _, eK, R, e1, fun v H0' H' R1 s1 k1 => ?_⟩
        have k1' : Rel G.K H0' v (.tuple ds) := k1
        cases k1' with
        | tup h1 h2 => exact ⟨_, _, rfl, .inr ⟨by rw [← eK]; exact SqT.of (R1.sub _ _ h1), by rw [← eK]; exact q _ _ _ R1 s1 (iw_revT (SqT.of h1) h2)⟩⟩
      | _ => cases e2
theorem relAll_rev {K : PySem.W.Frag} {H : Hp} : ∀ {xs : List V} {ds : List D}, RelAll K H xs ds → RelAll K H xs.reverse ds.reverse
  | _, _, .nil => .nil
  | _, _, .cons r t => by
    rw [List.reverse_cons, List.reverse_cons]
    exact (relAll_rev t).append (.cons r .nil)
theorem x_tupRev (hc : X.calm = true) (hg : Gl X "tuple") (hm : X.mg "tuple" = none) (hg2 : Gl X "reversed") (hm2 : X.mg "reversed" = none) (ha : XO X e f)
    (hs : starEach [e] X.env = (false, eval e X.env) :: starEach [] X.env := by rfl)
    (hs2 : starEach [.Call (.Name "reversed" p2) [e] [] pos2] X.env = (false, eval (.Call (.Name "reversed" p2) [e] [] pos2) X.env) :: starEach [] X.env := by rfl) :
    XV X (.Call (.Name "tuple" p) [.Call (.Name "reversed" p2) [e] [] pos2] [] pos) (fUn uTupRev f) :=
  (RT.pe_tupRev hc hg hm hg2 hm2 ha hs hs2).weak fun σ H Q ⟨G, H0, δ, res, δ', eK, R, e, q⟩ => by
    simp only [fUn, Option.bind_eq_some_iff, Option.map_eq_some_iff] at e
    obtain ⟨⟨o1, δ1⟩, e1, dx, e3, r', e5, e6⟩ := e
    cases e6
    refine ⟨G, H0, δ, o1, δ1, eK, R, e1, fun v H0' H' R1 s1 k1 => ?_⟩
    cases dx <;> simp only [uTupRev, reduceCtorEq, Option.some.injEq] at e5
    subst e5
    obtain ⟨p, xs, rfl, h1, h2⟩ := relT_list R1.sub (R1.rd k1 e3)
    refine ⟨p, xs, rfl, SqL.of h1, fun z hz => ?_⟩
    obtain ⟨R4, s4⟩ := R1.laid0 (o := .tup xs.reverse) hz
    exact q _ _ _ R4 (s1.trans s4) (.tup upd_same ((relAll_rev h2).sub s4))
end
end IP
namespace RevT
open PySem PySem.Spec PyProof.Rows HT
section
variable {prog : Program} {w : World} {A : Around} {E : Value → Shared → Prop} {s : Shared}
theorem sliceApplied_rev {sl : Addr} {vl vu vs : Value} {n : Nat} {Q : Int × Int × Nat → Shared → Prop} (hs : s.heap.IsSliceOf sl vl vu vs) (pl : IsPart vl none) (pu : IsPart vu none) (ps : IsPart vs (some (-1)))
    (h : Q ((n : Int) - 1, -1, n) s) : wpAny (model prog w) A (Builtin.Slice.sliceApplied (.ref sl) (pure (n : Int))) Q E s := by
  obtain ⟨os, hos, hcs, hds⟩ := id hs
  unfold Builtin.Slice.sliceApplied Builtin.Slice.sliceFields
  refine wpAny_bind (wpAny_bind (wpAny_field hos hds (x := vl) rfl (wpAny_bind (wpAny_field hos hds (x := vu) rfl (wpAny_bind (wpAny_field hos hds (x := vs) rfl (wpAny_pure ?_)))))))
  refine wpAny_bind (slicePart_ ps ?_)
  show wpAny _ _ (if ((-1 : Int) == 0) = true then _ else _) _ _ s
  rw [if_neg (by decide)]
  refine wpAny_bind (slicePart_ pl (wpAny_bind (slicePart_ pu (wpAny_bind (wpAny_pure ?_)))))
  show wpAny _ _ (pure ((n : Int) - 1, (-1 : Int), Builtin.Slice.slicePlaces ((n : Int) - 1) (-1) (-1))) _ _ s
  have hp : Builtin.Slice.slicePlaces ((n : Int) - 1) (-1) (-1) = n := by
    unfold Builtin.Slice.slicePlaces
    have h1 : ¬ ((-1 : Int) > 0) := by decide
    simp only [h1, if_false]
    split
    · rw [show (- -1 : Int) = 1 by decide, Int.ediv_one]
      omega
    · omega
  rw [hp]
  exact wpAny_pure h
theorem fm_some {α β : Type} {f : α → Option β} {g : α → β} : ∀ {l : List α}, (∀ x ∈ l, f x = some (g x)) → l.filterMap f = l.map g
  | [], _ => rfl
  | x :: l, h => by
    rw [List.filterMap_cons, h x List.mem_cons_self, List.map_cons, fm_some fun y hy => h y (List.mem_cons_of_mem _ hy)]
theorem pick_rev (xs : Array Value) : ((List.range xs.size).filterMap fun (m : Nat) => xs[(((xs.size : Int) - 1) + (m : Int) * -1).toNat]?).toArray = xs.toList.reverse.toArray := by
  congr 1
  apply List.ext_getElem?
  intro i
  have e : (List.range xs.size).filterMap (fun (m : Nat) => xs[(((xs.size : Int) - 1) + (m : Int) * -1).toNat]?) = (List.range xs.size).map fun m => xs.toList.getD (xs.size - 1 - m) .none := by
    refine fm_some fun m hm => ?_
    have hm := List.mem_range.mp hm
    have h2 : (((xs.size : Int) - 1) + (m : Int) * -1).toNat = xs.size - 1 - m := by omega
    rw [h2]
    have h3 : xs.size - 1 - m < xs.size := by omega
    simp [h3, List.getD]
  rw [e, List.getElem?_map]
  by_cases hi : i < xs.size
  · rw [List.getElem?_reverse (by simpa using hi)]
    have h3 : xs.size - 1 - i < xs.size := by omega
    simp [hi, h3, List.getD]
  · rw [List.getElem?_eq_none (by simp; omega), List.getElem?_eq_none (by simp; omega)]
    rfl
theorem getItem_tuple_rev {t sl : Addr} {items : Array Value} {vl vu vs : Value} {Q : Value → Shared → Prop} (ht : IsTup s.heap t items) (hs : s.heap.IsSliceOf sl vl vu vs) (pl : IsPart vl none) (pu : IsPart vu none) (ps : IsPart vs (some (-1)))
    (h : Q (.ref s.heap.objs.size) { s with heap := s.heap.push { cls := .type "tuple", data := .seq items.toList.reverse.toArray } })
    (hsz : items.size ≤ sizeLine) : wpAny (model prog w) A (getItem (.ref t) (.ref sl)) Q E s := by
  have htake : sizeOk (.seq items.toList.reverse.toArray) := by
    show items.toList.reverse.toArray.size ≤ sizeLine
    rw [List.size_toArray, List.length_reverse, Array.length_toList]
    exact hsz
  obtain ⟨os, hos, hcs, hds⟩ := id hs
  have hTs : s.TypeIs (.ref sl) "slice" := ⟨os, hos, hcs⟩
  unfold getItem
  try with_reducible refine wpAny_holding ?_
  first | refine wpAny_bind (wpAny_pure ?_) | skip
  refine wpAny_bind (wpAny_sequenceKey ht.typeIs (by decide) ?_)
  refine wpAny_bind (wpAny_callSpecial?_slot (name := Str.ofString "__getitem__") ht.typeIs PyProof.Rows.slot_tuple_getitem
    (wpAny_call_entry PyProof.Rows.slot_tuple_getitem ht.typeIs entry_tuple_getitem ?_ (args_tuple_getitem _ _)))
  show wpAny _ _ (Builtin.Tuple.tupleItemsOf (.ref t) >>= _) _ _ s
  refine wpAny_bind (tupleItemsOf_ ht ?_)
  refine wpAny_bind (wpAny_typeOf hTs ?_)
  rw [if_pos (by decide)]
  refine wpAny_bind (sliceApplied_rev hs pl pu ps ?_)
  show wpAny _ _ (if (((items.size : Int) - 1) == 0 && (-1 : Int) == 1 && items.size == items.size) = true then _ else _) _ _ s
  rw [if_neg (by rw [Bool.and_eq_true, Bool.and_eq_true]; intro q; exact absurd q.1.2 (by decide)), pick_rev]
  first
    | exact wpAny_bind (m := Builtin.Tuple.tupleExact _) (wpAny_newObj_type (wpAny_pure ⟨_, rfl, wpAny_pure h⟩) htake)
    | exact wpAny_bind (m := Builtin.Tuple.tupleExact _) (wpAny_newObj_type (wpAny_bind (wpAny_pure (wpAny_pure ⟨_, rfl, wpAny_pure h⟩))) htake)
end
end RevT
namespace L2
open PySem PySem.Spec PyProof.Rows
section
variable {X : Cx}
def rRevA (K : PySem.W.Frag) : V → Hp → VK → Prop := fun x H Q => ∃ a xs, x = .ref a ∧ ((SqL K H a xs ∧ ∀ z, H z = none → Q (.ref z) (upd H z (.lst xs.reverse))) ∨ (SqT K H a xs ∧ ∀ z, H z = none → Q (.ref z) (upd H z (.tup xs.reverse))))
theorem pe_revA {e : Expr} {te : TE} {k : Nat} {p1 p2 p3 pos : Pos} (he : PE X e te) : PE X (.Subscript e (.Slice none none (some (.UnaryOp .USub (.Constant (.int 1) k p1) p2)) p3) pos) (tUn (rRevA X.K) te) := by
  refine ⟨fun pins s σ H Q I h => ?_⟩
  refine Subscript_ (thn (he.run pins s σ H _ I h) fun v s1 ⟨x, H1, I1, r1, q1⟩ => ?_)
  obtain ⟨a, xs, ex, hq⟩ := q1
  subst ex
  cases r1
  have hst : PO X (some (.UnaryOp .USub (.Constant (.int 1) k p1) p2)) (tPart (tUn (rU fun i => .int (-i)) (tC (.int 1)))) := po_some (pe_un un_neg pe_int)
  refine wpAny_Slice (thn (po_none.run pins s1 σ H1 (fun o H2 => o = none ∧ H2 = H1) I1 ⟨rfl, rfl⟩) fun vl s2 ⟨l, H2, I2, pl, el, e2⟩ => ?_)
  subst el e2
  refine thn (po_none.run pins s2 σ H2 (fun o H3 => o = none ∧ H3 = H2) I2 ⟨rfl, rfl⟩) fun vu s3 ⟨u, H3, I3, pu, eu, e3⟩ => ?_
  subst eu e3
  refine thn (hst.run pins s3 σ H3 (fun o H4 => o = some (-1) ∧ H4 = H3) I3 ⟨1, rfl, -1, rfl, rfl, rfl⟩) fun vs s4 ⟨o, H4, I4, ps, eo, e4⟩ => ?_
  subst eo e4
  have I5 : Inv X pins σ H4 { s4 with heap := s4.heap.push { cls := .type "slice", data := .fields #[vl, vu, vs] } } := I4.kept (t' := s4.toks) fun b ob q => Heap.get?_push_of_some _ q
  show wpAny (model X.prog X.w) X.A (subscriptTail e (.Slice none none (some (.UnaryOp .USub (.Constant (.int 1) k p1) p2)) p3) (.ref a) (.ref s4.heap.objs.size)) (EP X pins σ Q) X.xe { s4 with heap := s4.heap.push { cls := .type "slice", data := .fields #[vl, vu, vs] } }
  rcases hq with ⟨hx, q⟩ | ⟨hx, q⟩
  · obtain ⟨its, r, ht, hz⟩ := I5.list hx
    have hlen := r.length
    refine tail_any (ops := [.ref a, .ref s4.heap.objs.size]) ht.isList.typeIs (PySem.slot_list_getitem.lookup) ?_ (by with_unfolding_all rfl)
    refine wpAny_getItem_list_slice ht.isList (Heap.IsSliceOf.new _ vl vu vs) pl pu ps (by decide) ?_ (by rw [List.size_toArray]; omega)
    rw [PySem.W.krv_pick]
    refine ⟨.ref _, _, I5.laid (t' := s4.toks) (o := .lst xs.reverse) (fun b ob q => Heap.get?_push_of_some _ q) (Nat.le_refl _) ?_, rfl, q _ (I5.hok.fresh (Nat.le_refl _))⟩
    exact ⟨by rw [List.length_reverse]; exact hz, _, 0, r.reverse, Heap.get?_push_size _ rfl⟩
  · obtain ⟨its, r, ht, hz⟩ := I5.tuple hx
    have hlen : its.toArray.size = xs.length := by rw [List.size_toArray]; exact r.length.symm
    refine tail_any (ops := [.ref a, .ref s4.heap.objs.size]) ht.typeIs (PyProof.Rows.slot_tuple_getitem.lookup) ?_ (by with_unfolding_all rfl)
    refine RevT.getItem_tuple_rev ht (Heap.IsSliceOf.new _ vl vu vs) pl pu ps ?_ (by rw [hlen]; exact hz)
    refine ⟨.ref _, _, I5.laid (t' := s4.toks) (o := .tup xs.reverse) (fun b ob q => Heap.get?_push_of_some _ q) (Nat.le_refl _) ?_, rfl, q _ (I5.hok.fresh (Nat.le_refl _))⟩
    exact ⟨by rw [List.length_reverse]; exact hz, _, r.reverse, IsTup.new _ _⟩
end
end L2
namespace IP
open PySem L2 RZ
section
variable {K : PySem.W.Frag}
theorem s_rev : UnS K (rRevA K) uRev := by
  intro G H0 H δ σ x dx res eK R rx e Q q
  subst eK
  cases dx <;> simp only [uRev, reduceCtorEq, Option.some.injEq] at e
  · subst e
    obtain ⟨p, xs, rfl, h1, h2⟩ := relT_list R.sub rx
    refine ⟨p, xs, rfl, .inl ⟨SqL.of h1, fun z hz => ?_⟩⟩
    have f := R.freshI hz
    exact q _ _ _ (R.laid hz) (Sub.refl _) ⟨z, _, rfl, upd_same, relAll_rev h2, f.1, f.2.1, f.2.2⟩
  · subst e
    obtain ⟨p, xs, rfl, h1, h2⟩ := relT_tup rx
    refine ⟨p, xs, rfl, .inr ⟨SqT.of (R.sub _ _ h1), fun z hz => ?_⟩⟩
    obtain ⟨R4, s4⟩ := R.laid0 (o := .tup xs.reverse) hz
    exact q _ _ _ R4 s4 (.tup upd_same ((relAll_rev h2).sub s4))
variable {X : Cx} {e : Expr} {f : Eo} {pos p2 : Pos}
theorem x_rev {k : Nat} {p1 p3 : Pos} (ha : XO X e f) : XV X (.Subscript e (.Slice none none (some (.UnaryOp .USub (.Constant (.int 1) k p1) p2)) p3) pos) (fUn uRev f) :=
  (pe_revA ha).weak fun _ _ _ h => un_read s_rev h
end
end IP
end
section
set_option linter.all false
/-! IR: further operations on data; comprehensions with two fors. -/
namespace IP
open PySem
@[simp] def biSum2 : List D → Option Res
  | [.list xs] => (intsOf xs).map fun is => .dat (.int is.sum)
  | [.tuple xs] => (intsOf xs).map fun is => .dat (.int is.sum)
  | _ => none
/-- the turns of a comprehension with two fors -/
def lc2Go (vs vs1 : List Nat) (g : Tg) (t : Et) (it1 : Ei) (g1 : Tg) (t1 : Et) (e : Ev) (src : List D) (ow : Option Nat) : List D → Env → Option (List D × Env)
  | [], δ => if still δ src ow = true then some ([], δ) else none
  | x :: xs, δ => if still δ src ow = true then (g.put x δ).bind fun δ1 => (t δ1).bind fun p => if p.1 = true then
      (it1 p.2).bind fun q => (unAll vs1 q.2).bind fun δ2 => (lcGo vs1 g1 t1 e q.1.1 q.1.2 q.1.1 δ2).bind fun r =>
        (unAll vs r.2).bind fun δ3 => (lc2Go vs vs1 g t it1 g1 t1 e src ow xs δ3).map fun z => (r.1 ++ z.1, z.2)
    else (unAll vs p.2).bind fun δ2 => lc2Go vs vs1 g t it1 g1 t1 e src ow xs δ2 else none
@[simp] def vLc2 (vs vs1 : List Nat) (it : Ei) (g : Tg) (t : Et) (it1 : Ei) (g1 : Tg) (t1 : Et) (e : Ev) : Ev := fun δ => (it δ).bind fun p => (unAll vs p.2).bind fun δ1 =>
  (lc2Go vs vs1 g t it1 g1 t1 e p.1.1 p.1.2 p.1.1 δ1).bind fun q => if q.1.length ≤ line then some (.new q.1, backAll p.2 vs q.2) else none
end IP
end
section
set_option Elab.async false
set_option linter.all false
set_option maxRecDepth 100000
set_option maxHeartbeats 2000000
/-! Snd15: sums of tuples, several values stored at once by way of a tuple, comprehensions with two fors. -/
namespace IP
open PySem L2
section
variable {X : Cx} {K : PySem.W.Frag}
def rSum2 (K : PySem.W.Frag) : List V → Hp → VK → Prop := fun vs H Q => ∃ (a : Addr) (ns : List Int), vs = [V.ref a] ∧ (SqL K H a (ns.map V.int) ∨ SqT K H a (ns.map V.int)) ∧ Q (.int ns.sum) H
theorem cr_sum2 (hc : X.calm = true) : CallR X (.builtin "sum") (rSum2 X.K) := by
  intro pins s σ H vs us Q I r h
  obtain ⟨a, ns, rfl, hs, q⟩ := h
  rcases hs with hs | hs
  · exact cr_sum hc pins s σ H _ us Q I r ⟨a, ns, rfl, hs, q⟩
  · obtain ⟨its, rv, hl, _⟩ := I.tuple hs
    rw [Vals.ref1 r]
    obtain ⟨xs, e⟩ := rv.ints.allInts.items
    have hn : numsOf (PySem.intItems xs).toList = ns := by rw [← e]; exact rv.ints.numsOf
    rw [PySem.nums_intItems] at hn
    rw [e] at hl
    refine PySem.W.ktm_sumG (I.ok.hd hc) (show s.heap.IsTuple a (PySem.intItems xs) from ?_) fun h' tk t' hk => ?_
    · obtain ⟨o, h1, h2, n, h3⟩ := hl
      exact ⟨o, h1, h2, n, h3⟩
    · have := q
      rw [← hn] at this
      rw [preSum_eq, List.take_of_length_le (by simp)]
      exact ⟨.int _, H, I.kept hk, ⟨_, rfl⟩, this⟩
theorem s_sum2 : BiS K (rSum2 K) biSum2 := by
  intro G H0 H δ σ vs ds res eK R r e Q q
  subst eK
  unfold biSum2 at e
  split at e
  · simp only [Option.map_eq_some_iff] at e
    obtain ⟨is, e1, rfl⟩ := e
    obtain ⟨v, rfl, h⟩ := one r
    obtain ⟨p, xs, rfl, h1, h2⟩ := relT_list R.sub h
    obtain rfl := h2.ints e1
    exact ⟨p, is, rfl, .inl (SqL.of h1), q _ _ _ R (Sub.refl _) (.int _)⟩
  · simp only [Option.map_eq_some_iff] at e
    obtain ⟨is, e1, rfl⟩ := e
    obtain ⟨v, rfl, h⟩ := one r
    obtain ⟨p, xs, rfl, h1, h2⟩ := relT_tup h
    obtain rfl := h2.ints e1
    exact ⟨p, is, rfl, .inr (SqT.of (R.sub _ _ h1)), q _ _ _ R (Sub.refl _) (.int _)⟩
  · cases e
/-! ### a, b = e1, e2 by way of a tuple -/
theorem gss_all {t : TGs} {is : List Nat} (h : GSs K t is) : ∀ (σ : L2.St) (H : Hp) (vs : List V) (Q : L2.St → Hp → Prop), vs.length = is.length → Q (setAll σ is vs) H → t vs σ H Q := by
  induction h with
  | nil =>
    intro σ H vs Q hl q
    cases vs with
    | nil => exact ⟨rfl, q⟩
    | cons _ _ => simp at hl
  | cons h ih =>
    intro σ H vs Q hl q
    cases vs with
    | nil => simp at hl
    | cons v vs => exact ⟨v, vs, rfl, ih _ _ _ _ (by simpa using hl) q⟩
theorem pend_laid {G : Gx} {A H : Hp} {δ : Env} {σ : L2.St} {p : Addr} {o : HO} (R : Rl G A H δ σ) (hp : H p = none) : ∀ {rs : List Res} {vs : List V}, Pend G A H δ σ rs vs → Pend G A (upd H p o) δ σ rs vs
  | [], [], _ => trivial
  | r :: rs, v :: vs, ⟨h1, h2, h3⟩ => by
    refine ⟨?_, pend_laid R hp h2, h3⟩
    cases r with
    | dat d => exact h1
    | new ds =>
      obtain ⟨q, ws, x1, x2, x3, x4, x5, x6⟩ := h1
      exact ⟨q, ws, x1, Sub.new hp _ _ x2, x3, x4, x5, fun i h => x6 i (R.holdsOf (keep_new hp) h)⟩
    | newD t kvs =>
      obtain ⟨q, x1, x2, x4, x5, x6⟩ := h1
      obtain ⟨o', y, _⟩ := x2.there
      exact ⟨q, x1, x2.mono (Sub.refl _) ((Sub.new hp _ _ y).trans y.symm), x4, x5, fun i h => x6 i (R.holdsOf (keep_new hp) h)⟩
theorem xs_parT {es es' : List Expr} {t : TGs} {is : List Nat} {fs : List Ev} {j j' : Nat} {pos tp tp' : Pos} {n : Nat} (hg : PG X (.Tuple es j tp) (gTup X.K n t)) (hn : n = is.length) (gs : GSs X.K t is) (h : PA X es' (kR X.K fs)) (hf : fs.length = is.length ∧ is.length ≤ 100)
    (hs : swapsWithSole [.Tuple es j tp] (.Tuple es' j' tp') pos.line X.env = pure false := by rfl) (hw : swappedStores [.Tuple es j tp] (.Tuple es' j' tp') X.env = pure none := by rfl)
    (h1 : (assignEach [.Tuple es j tp] X.env).map (·.2) = [assign (.Tuple es j tp) X.env] := by rfl) : XS X (.Assign [.Tuple es j tp] (.Tuple es' j' tp') pos) (sPar is fs) := (ps_asg (pe_tup h) hg hs hw h1).weak fun D σ H ⟨G, H0, δ, o, δ', eK, R, e, q⟩ => by
  simp only [sPar, Option.bind_eq_some_iff, Option.map_eq_some_iff] at e
  obtain ⟨⟨rs, δ1⟩, e1, δ2, e2, e3⟩ := e
  cases e3
  refine ⟨G, H0, δ, rs, δ1, eK, R, e1, fun vs A H1 R1 s1 k => ?_⟩
  have hl := pend_length k
  rw [pEvs_length e1] at hl
  refine ⟨by rw [sizeLine_eq]; omega, fun p hp => ?_⟩
  refine ⟨p, vs, rfl, SqT.of upd_same, by omega, ?_⟩
  exact gss_all gs σ _ vs _ (by omega) (q _ A _ (Rl.storeAll (R1.laid hp) (pend_laid R1 hp k) e2) s1)
end
end IP
end
section
set_option Elab.async false
set_option linter.all false
set_option maxRecDepth 100000
set_option maxHeartbeats 2000000
/-! Snd16: comprehensions with two fors. -/
namespace IP
open PySem L2
theorem wipe_at {i : Nat} : ∀ (τ : L2.St) (vs : List Nat), i ∈ vs → (L2.wipe τ vs)[i]? = τ[i]?.map fun _ => none := by
  intro τ vs
  induction vs with
  | nil => intro h; simp at h
  | cons v vs ih =>
    intro h
    unfold L2.wipe
    by_cases hv : v = i
    · subst hv
      by_cases hl : v < τ.length
      · rw [List.getElem?_set_self (by rw [wipe_length]; exact hl), List.getElem?_eq_getElem hl]
        rfl
      · rw [List.getElem?_eq_none (by rw [List.length_set, wipe_length]; omega), List.getElem?_eq_none (by omega)]
        rfl
    · rw [List.getElem?_set_ne hv]
      rcases List.mem_cons.mp h with z | z
      · exact absurd z.symm hv
      · exact ih z
theorem wipe_sub (τ : L2.St) {vs1 vs : List Nat} (hs : ∀ i ∈ vs1, i ∈ vs) : L2.wipe (L2.wipe τ vs1) vs = L2.wipe τ vs := by
  apply List.ext_getElem?
  intro i
  by_cases hi : i ∈ vs
  · rw [wipe_at _ _ hi, wipe_at _ _ hi]
    by_cases h1 : i ∈ vs1
    · rw [wipe_at _ _ h1]
      cases τ[i]? <;> rfl
    · rw [wipe_other h1]
  · rw [wipe_other hi, wipe_other hi, wipe_other fun h => hi (hs i h)]
/-- what is walked, whatever else is held -/
def kJ (K : PySem.W.Frag) (f : Ei) : TI := fun σ H R => ∃ G H0 δ xs ow δ', G.K = K ∧ Rl G H0 H δ σ ∧ f δ = some ((xs, ow), δ') ∧
  ∀ J H0' H', Rl G H0' H' δ' σ → Sub H0 H0' → (∀ G2 : Gx, G2.K = G.K → IW G2 H0' σ J xs ow) → R J H'
abbrev XJ (X : Cx) (tg e : Expr) (f : Ei) : Prop := PI X tg e (kJ X.K f)
section
variable {X : Cx} {K : PySem.W.Frag}
theorem iw_list2 {G : Gx} {H0 : Hp} {σ : L2.St} {p : Addr} {xs : List D} {ow : Option Nat} (h : InPlace G H0 σ p xs ow) : ∀ G2 : Gx, G2.K = G.K → IW G2 H0 σ (Itl G.K p) xs ow := fun G2 e => by
  rw [← e]
  refine iw_list ?_
  unfold InPlace at h ⊢
  cases ow with
  | none => rw [e]; exact h
  | some k => exact h
theorem iw_tup2 {G : Gx} {H0 : Hp} {σ : L2.St} {p : Addr} {ys : List V} {xs : List D} (h : SqT G.K H0 p ys) (r : RelAll G.K H0 ys xs) {ow : Option Nat} : ∀ G2 : Gx, G2.K = G.K → IW G2 H0 σ (Itt G.K p) xs ow := fun G2 e => by
  rw [← e] at h r ⊢
  exact iw_tup h r
variable {tg e e2 : Expr} {f g : Eo} {pos p : Pos}
theorem xj_seq (he : XO X e f) : XJ X tg e (iE f) := PI.or_ (pi_list he) (pi_tup he) fun σ H Rr ⟨G, H0, δ, xs, ow, δ', eK, R, e0, q⟩ => by
  simp only [iE, Option.bind_eq_some_iff, Option.map_eq_some_iff] at e0
  obtain ⟨⟨o, δ1⟩, e1, d, e2, ys, e3, e4⟩ := e0
  cases e4
  cases d with
  | list ds =>
    cases e3
    refine .inl ⟨G, H0, δ, o, δ1, eK, R, e1, fun v H0' H' R1 s1 k1 => ?_⟩
    obtain ⟨a, ys, rfl, h1, h2⟩ := seq_l R1 k1 e2
    exact ⟨a, rfl, ⟨ys, SqL.of h1⟩, by rw [← eK]; exact q _ _ _ R1 s1 (iw_list2 h2)⟩
  | tuple ds =>
    cases e3
    refine .inr ⟨G, H0, δ, o, δ1, eK, R, e1, fun v H0' H' R1 s1 k1 => ?_⟩
    obtain ⟨a, ys, rfl, h1, h2⟩ := seq_t R1 k1 e2
    exact ⟨a, rfl, ⟨ys, by rw [← eK]; exact SqT.of (R1.sub _ _ h1)⟩, by rw [← eK]; exact q _ _ _ R1 s1 (iw_tup2 (SqT.of h1) h2)⟩
  | _ => cases e3
theorem xj_range1 (hg : Gl X "range") (hm : X.mg "range" = none) (ha : XO X e f) (hs : starEach [e] X.env = (false, eval e X.env) :: starEach [] X.env := by rfl) : XJ X tg (.Call (.Name "range" p) [e] [] pos) (iRange1 f) :=
  (pi_range1 hg hm (pa_cons ha pa_nil hs) hs).weak fun σ H Rr ⟨G, H0, δ, xs, ow, δ', eK, R, e0, q⟩ => by
    simp only [iRange1, Option.bind_eq_some_iff] at e0
    obtain ⟨⟨o, δ1⟩, e1, e2⟩ := e0
    refine ⟨G, H0, δ, o, δ1, eK, R, e1, fun v H0' H' R1 s1 k1 => ?_⟩
    cases o with
    | «at» i => cases e2
    | val d =>
      cases d with
      | int j =>
        dsimp only at e2
        split at e2
        · rename_i hj
          cases e2
          cases k1
          exact ⟨j, rfl, hj.1, hj.2, q _ _ _ R1 s1 fun _ _ => iw_range⟩
        · cases e2
      | _ => cases e2
theorem xj_range2 (hg : Gl X "range") (hm : X.mg "range" = none) (ha : XO X e f) (hb : XO X e2 g) (hs : starEach [e, e2] X.env = (false, eval e X.env) :: starEach [e2] X.env := by rfl) (hs2 : starEach [e2] X.env = (false, eval e2 X.env) :: starEach [] X.env := by rfl) : XJ X tg (.Call (.Name "range" p) [e, e2] [] pos) (iRange2 f g) :=
  (pi_range2 hg hm (pa_cons ha (pa_cons hb pa_nil hs2) hs) (by rw [hs, hs2]; rfl) hs2).weak fun σ H Rr ⟨G, H0, δ, xs, ow, δ', eK, R, e0, q⟩ => by
    simp only [iRange2, Option.bind_eq_some_iff] at e0
    obtain ⟨⟨o, δ1⟩, e1, ⟨o2, δ2⟩, e2, e3⟩ := e0
    refine ⟨G, H0, δ, o, δ1, eK, R, e1, fun v H0' H' R1 s1 k1 => ?_⟩
    refine ⟨G, H0', δ1, o2, δ2, eK, R1, e2, fun w A' B' R2 s2 k2 => ?_⟩
    cases o with
    | «at» i => cases e3
    | val d =>
      cases d with
      | int j =>
        cases o2 with
        | «at» i => cases e3
        | val d =>
          cases d with
          | int l =>
            dsimp only at e3
            split at e3
            · rename_i hj
              cases e3
              cases k1
              cases k2
              exact ⟨j, l, rfl, hj, q _ _ _ R2 (s1.trans s2) fun _ _ => iw_range⟩
            · cases e3
          | _ => cases e3
      | _ => cases e3
/-- the reading of a comprehension with two fors -/
theorem lc2_read {it it1 : Ei} {g g1 : TG} {t t1 : Tg} {tt tt1 : Et} {te : Ev} {vs vs1 : List Nat} (gs : GS K g t) (gs1 : GS K g1 t1) (hv : ∀ i ∈ t.slots, i ∈ vs) (hv1 : ∀ i ∈ t1.slots, i ∈ vs1) (hsub : ∀ i ∈ vs1, i ∈ vs) {σ : L2.St} {H : Hp} {Q : VK} (h : kE K (vLc2 vs vs1 it t tt it1 t1 tt1 te) σ H Q) : tLc2 (kI K it) g (kT K tt) (kJ K it1) g1 (kT K tt1) (kE K te) vs vs1 σ H Q := by
  obtain ⟨G, H0, δ, res, δ', eK, R, e, q⟩ := h
  simp only [vLc2, Option.bind_eq_some_iff] at e
  obtain ⟨⟨⟨xs, ow⟩, δ1⟩, e1, δ2, e2, ⟨ys, δ3⟩, e4, e5⟩ := e
  dsimp only at e2 e4 e5
  split at e5
  · rename_i hlen
    cases e5
    refine ⟨G, H0, δ, xs, ow, δ1, eK, R, e1, fun J A H1 R1 s1 iw => ?_⟩
    intro D hD
    have fr := R1.freshU (o := .lst []) hD
    have R2 : Rl G A (upd H1 D (.lst [])) δ2 (wipe σ vs) := (R1.laid hD).wipe e2
    have hD2 : Held G A (upd H1 D (.lst [])) δ2 (wipe σ vs) D [] := ⟨upd_same, fr.1, fr.2.1, (by
      intro i hi
      obtain ⟨s, x1, x2, pz, x3, x4⟩ := hi
      obtain ⟨h1, h2, h3, h4⟩ := unAll_spec e2
      by_cases hj : i ∈ vs
      · rw [h2 i hj] at x1
        cases x1
        cases x2
      · rw [h3 i hj] at x1
        rw [wipe_other hj] at x3
        exact fr.2.2 i ⟨s, x1, x2, pz, x3, x4⟩)⟩
    have hk : ∀ {δ : Env} {xs : List IP.D} {ow : Option Nat} {τ : L2.St} {vs : List Nat}, (∀ i, i ∈ vs → δ[i]? = some .un) → still δ xs ow = true → ∀ k, ow = some k → (wipe τ vs)[k]? = τ[k]? := by
      intro δ xs ow τ vs hun st k ek
      subst ek
      by_cases hj : k ∈ vs
      · simp only [still, hun k hj, slotD] at st
        cases st
      · exact wipe_other hj
    let P : Nat → Hp → Prop := fun i H => ∃ B δ acc accD zs, Rl G B H δ (wipe σ vs) ∧ Sub A B ∧ Held G B H δ (wipe σ vs) D acc ∧ RelAll G.K B acc accD ∧ (∀ i, i ∈ vs → δ[i]? = some .un) ∧ lc2Go vs vs1 t tt it1 t1 tt1 te xs ow (xs.drop i) δ = some (zs, δ3) ∧ ys = accD ++ zs ∧ i ≤ xs.length
    have stl : ∀ {i : Nat} {δ : Env} {zs : List IP.D}, lc2Go vs vs1 t tt it1 t1 tt1 te xs ow (xs.drop i) δ = some (zs, δ3) → still δ xs ow = true := by
      intro i δ zs e
      cases hd : xs.drop i with
      | nil =>
        rw [hd] at e
        unfold lc2Go at e
        split at e
        · assumption
        · cases e
      | cons _ _ =>
        rw [hd] at e
        unfold lc2Go at e
        split at e
        · assumption
        · cases e
    refine ⟨fun i m H => m = xs.length - i ∧ P i H, ⟨_, rfl, A, δ2, [], [], ys, R2, Sub.refl _, hD2, .nil, (unAll_spec e2).2.1, e4, rfl, Nat.zero_le _⟩, ?_⟩
    rintro i m H ⟨rfl, B, δ, acc, accD, zs, R3, s3, hh, ra, hun, e6, ey, hl⟩
    have st := stl e6
    by_cases hi : i < xs.length
    · refine .inr ⟨iw.goes i B H δ _ R3 s3 (hk hun st) st hi, P (i + 1), fun H' p' => ⟨_, by omega, rfl, p'⟩, fun x H' y => ?_⟩
      obtain ⟨C, d, R4, s4, sH, fr4, e7, r⟩ := iw.yields i B H δ _ x H' R3 s3 (hk hun st) st hi y
      have hh4 : Held G C H' δ (wipe σ vs) D acc := ⟨sH _ _ hh.at_, (by
        cases q : C D with
        | none => rfl
        | some o =>
          rcases fr4 D o q with ⟨u, hu⟩ | hu
          · rw [hh.a] at hu
            cases hu
          · rw [hh.at_] at hu
            cases hu), hh.g, fun i hi => hh.h i (R3.holdsOf (keep_sub sH) hi)⟩
      have R5 := R4.hold hh4.at_ hh4.a hh4.g hh4.h
      rw [List.drop_eq_getElem_cons hi] at e6
      have ed : xs[i] = d := by
        rw [List.getElem?_eq_getElem hi] at e7
        exact Option.some.inj e7
      rw [ed] at e6
      unfold lc2Go at e6
      rw [if_pos st] at e6
      simp only [Option.bind_eq_some_iff] at e6
      obtain ⟨δ4, e8, ⟨k, δ5⟩, e9, e10⟩ := e6
      refine gs (G.with D acc) C H' δ δ4 (wipe σ vs) x d eK R5 r e8 _ fun τ R6 w6 => ?_
      have ww : wipe τ vs = wipe σ vs := (w6 vs hv).trans (wipe_wipe σ vs)
      refine ⟨ww, G.with D acc, C, δ4, k, δ5, eK, R6, e9, fun C7 H7 R7 s7 => ?_⟩
      -- behind the inner loop: the names of the comprehension unset
      have back : ∀ {C9 : Hp} {H9 : Hp} {δ8 δ9 : Env} {τ' : L2.St} {acc9 : List V} {accD9 zs9 : List IP.D}, Rl G C9 H9 δ8 τ' → wipe τ' vs = wipe σ vs → Held G C9 H9 δ8 τ' D acc9 → Sub A C9 → RelAll G.K C9 acc9 accD9 → unAll vs δ8 = some δ9 →
          lc2Go vs vs1 t tt it1 t1 tt1 te xs ow (xs.drop (i + 1)) δ9 = some (zs9, δ3) → ys = accD9 ++ zs9 → P (i + 1) H9 := by
        intro C9 H9 δ8 δ9 τ' acc9 accD9 zs9 R9 w9 hh9 s9 ra9 e12 e13 ey9
        have R11 : Rl G C9 H9 δ9 (wipe σ vs) := by
          have := R9.wipe e12
          rw [w9] at this
          exact this
        have un9 := (unAll_spec e12).2.1
        have nh : ∀ j, ¬ Holds H9 δ9 (wipe σ vs) j D := fun j ⟨s, x1, x2, pz, x3, x4⟩ => by
          by_cases hj : j ∈ vs
          · rw [un9 j hj] at x1
            cases x1
            cases x2
          · rw [(unAll_spec e12).2.2.1 j hj] at x1
            rw [wipe_other hj] at x3
            refine hh9.h j ⟨s, x1, x2, pz, ?_, x4⟩
            have : (wipe τ' vs)[j]? = (wipe σ vs)[j]? := by rw [w9]
            rw [wipe_other hj, wipe_other hj] at this
            rw [this]
            exact x3
        exact ⟨C9, δ9, acc9, accD9, zs9, R11, s9, ⟨hh9.at_, hh9.a, hh9.g, nh⟩, ra9, un9, e13, ey9, hi⟩
      cases k with
      | false =>
        refine iteF ?_
        rw [if_neg Bool.false_ne_true] at e10
        simp only [Option.bind_eq_some_iff] at e10
        obtain ⟨δ9, e12, e13⟩ := e10
        obtain ⟨R10, hh10⟩ := R4.found hh4 R7
        exact back R10 ww hh10 (s3.trans (s4.trans s7)) (ra.sub (s4.trans s7)) e12 e13 ey
      | true =>
        refine iteT ?_
        simp only [if_true, Option.bind_eq_some_iff, Option.map_eq_some_iff] at e10
        obtain ⟨⟨⟨ys1, ow1⟩, δ6⟩, e11, δ7, e12, ⟨r1, δr⟩, e13, δ9, e14, ⟨z2, δz⟩, e15, e16⟩ := e10
        dsimp only at e11 e12 e13 e14 e15 e16
        cases e16
        refine ⟨G.with D acc, C7, δ5, ys1, ow1, δ6, eK, R7, e11, fun J1 C8 H8 R8 s8 iw1 => ?_⟩
        have iwG : IW G C8 τ J1 ys1 ow1 := iw1 G rfl
        obtain ⟨R10, hh10⟩ := R4.found hh4 (R8.wipe e12)
        let P1 : Nat → Hp → Prop := fun j H => ∃ B δ acc' accD' zs1, Rl G B H δ (wipe τ vs1) ∧ Sub C8 B ∧ Held G B H δ (wipe τ vs1) D acc' ∧ RelAll G.K B acc' accD' ∧ (∀ i, i ∈ vs1 → δ[i]? = some .un) ∧ lcGo vs1 t1 tt1 te ys1 ow1 (ys1.drop j) δ = some (zs1, δr) ∧ accD ++ r1 = accD' ++ zs1 ∧ j ≤ ys1.length
        have stl1 : ∀ {j : Nat} {δ : Env} {zs : List IP.D}, lcGo vs1 t1 tt1 te ys1 ow1 (ys1.drop j) δ = some (zs, δr) → still δ ys1 ow1 = true := by
          intro i δ zs e
          cases hd : ys1.drop i with
          | nil =>
            rw [hd] at e
            unfold lcGo at e
            split at e
            · assumption
            · cases e
          | cons _ _ =>
            rw [hd] at e
            unfold lcGo at e
            split at e
            · assumption
            · cases e
        refine ⟨fun j k H => k = ys1.length - j ∧ P1 j H, ⟨_, rfl, C8, δ7, acc, accD, r1, R10, Sub.refl _, hh10, ra.sub ((s4.trans s7).trans s8), (unAll_spec e12).2.1, e13, rfl, Nat.zero_le _⟩, ?_⟩
        rintro j kk Hj ⟨rfl, B1, δj, accj, accDj, zsj, Rj, sj, hhj, raj, hunj, ej, eyj, hlj⟩
        have stj := stl1 ej
        by_cases hj : j < ys1.length
        · refine .inr ⟨iwG.goes j B1 Hj δj _ Rj sj (hk hunj stj) stj hj, P1 (j + 1), fun H' p' => ⟨_, by omega, rfl, p'⟩, fun x1 Hx yj => ?_⟩
          obtain ⟨C', d', R4', s4', sH', fr4', e7', r'⟩ := iwG.yields j B1 Hj δj _ x1 Hx Rj sj (hk hunj stj) stj hj yj
          have hh4' : Held G C' Hx δj (wipe τ vs1) D accj := ⟨sH' _ _ hhj.at_, (by
            cases q : C' D with
            | none => rfl
            | some o =>
              rcases fr4' D o q with ⟨u, hu⟩ | hu
              · rw [hhj.a] at hu
                cases hu
              · rw [hhj.at_] at hu
                cases hu), hhj.g, fun i hi => hhj.h i (Rj.holdsOf (keep_sub sH') hi)⟩
          have R5' := R4'.hold hh4'.at_ hh4'.a hh4'.g hh4'.h
          rw [List.drop_eq_getElem_cons hj] at ej
          have ed' : ys1[j] = d' := by
            rw [List.getElem?_eq_getElem hj] at e7'
            exact Option.some.inj e7'
          rw [ed'] at ej
          unfold lcGo at ej
          rw [if_pos stj] at ej
          simp only [Option.bind_eq_some_iff] at ej
          obtain ⟨δ4', e8', ⟨k', δ5'⟩, e9', e10'⟩ := ej
          refine gs1 (G.with D accj) C' Hx δj δ4' (wipe τ vs1) x1 d' eK R5' r' e8' _ fun τ' R6' w6' => ?_
          have ww' : wipe τ' vs1 = wipe τ vs1 := (w6' vs1 hv1).trans (wipe_wipe τ vs1)
          refine ⟨ww', G.with D accj, C', δ4', k', δ5', eK, R6', e9', fun C7' H7' R7' s7' => ?_⟩
          have back1 : ∀ {C9 : Hp} {H9 : Hp} {δ8 δ9 : Env} {acc9 : List V}, Rl G C9 H9 δ8 τ' → Held G C9 H9 δ8 τ' D acc9 → unAll vs1 δ8 = some δ9 → Rl G C9 H9 δ9 (wipe τ vs1) ∧ Held G C9 H9 δ9 (wipe τ vs1) D acc9 ∧ ∀ i, i ∈ vs1 → δ9[i]? = some .un := by
            intro C9 H9 δ8 δ9 acc9 R9 hh9 e12
            have R11 : Rl G C9 H9 δ9 (wipe τ vs1) := by
              have := R9.wipe e12
              rw [ww'] at this
              exact this
            have un9 := (unAll_spec e12).2.1
            refine ⟨R11, ⟨hh9.at_, hh9.a, hh9.g, fun j ⟨s, x1, x2, pz, x3, x4⟩ => ?_⟩, un9⟩
            by_cases hj : j ∈ vs1
            · rw [un9 j hj] at x1
              cases x1
              cases x2
            · rw [(unAll_spec e12).2.2.1 j hj] at x1
              rw [wipe_other hj] at x3
              refine hh9.h j ⟨s, x1, x2, pz, ?_, x4⟩
              have : (wipe τ' vs1)[j]? = (wipe τ vs1)[j]? := by rw [ww']
              rw [wipe_other hj, wipe_other hj] at this
              rw [this]
              exact x3
          cases k' with
          | true =>
            refine iteT ?_
            simp only [if_true, Option.bind_eq_some_iff, Option.map_eq_some_iff] at e10'
            obtain ⟨⟨r8, δ8⟩, e11', δ9', e12', ⟨zs', δz⟩, e13', e14'⟩ := e10'
            cases e14'
            refine ⟨G.with D accj, C7', δ5', r8, δ8, eK, R7', e11', fun v C8' H8' R8' s8' k8 => ?_⟩
            obtain ⟨C9, R9, s9, k9⟩ := R8'.toD k8
            obtain ⟨R10', hh10'⟩ := R4'.found hh4' R9
            obtain ⟨R11, hh11, un9⟩ := back1 R10' hh10' e12'
            have hleq : accj.length = accDj.length := raj.length
            refine ⟨accj, hh11.at_, ?_, ?_⟩
            · have h1 : ys.length = (accD ++ r1).length + z2.length := by
                rw [ey]
                simp only [List.length_append]
                omega
              have h2 : (accD ++ r1).length = accDj.length + (zs'.length + 1) := by
                rw [eyj]
                simp only [List.length_append, List.length_cons]
              exact Nat.lt_of_lt_of_le (show accj.length < ys.length by omega) (line_le hlen)
            · refine ⟨C9, δ9', accj ++ [v], accDj ++ [r8.toD], zs', R11.relay hh11.at_ hh11.a hh11.g hh11.h, ?_, ⟨upd_same, hh11.a, hh11.g, fun i hi => hh11.h i (R11.holdsOf (keep_lst hh11.at_) hi)⟩, (raj.sub (((s4'.trans s7').trans s8').trans s9)).append (.cons k9 .nil), un9, e13', ?_, hj⟩
              · exact sj.trans (((s4'.trans s7').trans s8').trans s9)
              · rw [eyj, List.append_assoc]
                rfl
          | false =>
            refine iteF ?_
            rw [if_neg Bool.false_ne_true] at e10'
            simp only [Option.bind_eq_some_iff] at e10'
            obtain ⟨δ9', e12', e13'⟩ := e10'
            obtain ⟨R10', hh10'⟩ := R4'.found hh4' R7'
            obtain ⟨R11, hh11, un9⟩ := back1 R10' hh10' e12'
            exact ⟨C7', δ9', accj, accDj, zsj, R11, sj.trans (s4'.trans s7'), hh11, raj.sub (s4'.trans s7'), un9, e13', eyj, hj⟩
        · have ejj : j = ys1.length := by omega
          subst ejj
          refine .inl ⟨iwG.stops B1 Hj δj _ Rj sj (hk hunj stj) stj, ?_⟩
          rw [List.drop_length] at ej
          unfold lcGo at ej
          rw [if_pos stj] at ej
          cases ej
          rw [List.append_nil] at eyj
          refine back Rj ?_ hhj (s3.trans (((s4.trans s7).trans s8).trans sj)) raj e14 e15 ?_
          · rw [wipe_sub τ hsub, ww]
          · rw [ey, ← eyj, List.append_assoc]
    · have ei : i = xs.length := by omega
      subst ei
      refine .inl ⟨iw.stops B H δ _ R3 s3 (hk hun st) st, ?_⟩
      rw [List.drop_length] at e6
      unfold lc2Go at e6
      rw [if_pos st] at e6
      cases e6
      rw [List.append_nil] at ey
      subst ey
      have R4 := Rl.back R1 e2 s3 R3
      refine q _ B H R4 (s1.trans s3) ⟨D, acc, rfl, hh.at_, ra, hh.a, hh.g, fun i hi => ?_⟩
      exact hh.h i (back_holds R1 e2 R3 i D hi)
  · cases e5
variable {elt tg1 iter iter1 : Expr} {ifs ifs1 : List Expr} {scope : Scope} {own : List (Str × Nat)} {vs1 : List Nat} {it it1 : Ei} {gg g1 : TG} {t t1 : Tg} {tt tt1 : Et} {te : Ev}
theorem x_lc2 (hc : X.calm = true) (hN : X.N.Nodup) (hi : XI X tg iter it) (ok : BlkOk X.N X.env.scope scope own) (gs : GS X.K gg t) (hv : ∀ i ∈ t.slots, i ∈ own.map (·.2)) (gs1 : GS X.K g1 t1) (hv1 : ∀ i ∈ t1.slots, i ∈ vs1) (hsub : ∀ i ∈ vs1, i ∈ own.map (·.2))
    (hg : ∀ (s : Shared) (H : Hp) (C : Addr) (cl : List (Str × Addr)) (fp : List Addr), PG (X.blk s H scope (compEnvC scope cl C X.env) fp) tg gg) (ht : ∀ (s : Shared) (H : Hp) (C : Addr) (cl : List (Str × Addr)) (fp : List Addr), XTs (X.blk s H scope (compEnvC scope cl C X.env) fp) ifs tt)
    (hi1 : ∀ (s : Shared) (H : Hp) (C : Addr) (cl : List (Str × Addr)) (fp : List Addr), XJ (X.blk s H scope (compEnvC scope cl C X.env) fp) tg1 iter1 it1)
    (hg1 : ∀ (s : Shared) (H : Hp) (C : Addr) (cl : List (Str × Addr)) (fp : List Addr), PG (X.blk s H scope (compEnvC scope cl C X.env) fp) tg1 g1) (ht1 : ∀ (s : Shared) (H : Hp) (C : Addr) (cl : List (Str × Addr)) (fp : List Addr), XTs (X.blk s H scope (compEnvC scope cl C X.env) fp) ifs1 tt1)
    (he : ∀ (s : Shared) (H : Hp) (C : Addr) (cl : List (Str × Addr)) (fp : List Addr), XV (X.blk s H scope (compEnvC scope cl C X.env) fp) elt te) (hs : ∀ x, foldedSetIterable iter X.env x = pure x := by intro _; rfl) (hs1 : ∀ env x, foldedSetIterable iter1 env x = pure x := by intro _ _; rfl) :
    XV X (.ListComp elt [⟨tg, iter, ifs, 0⟩, ⟨tg1, iter1, ifs1, 0⟩] scope pos) (vLc2 (own.map (·.2)) vs1 it t tt it1 t1 tt1 te) := (pe_lc2 hc hN hi ok hsub hg ht hi1 hg1 ht1 he hs hs1).weak fun _ _ _ h => lc2_read gs gs1 hv hv1 hsub h
theorem xs_setLc2 {i : Nat} {y : Str} {py spos : Pos} (hc : X.calm = true) (hN : X.N.Nodup) (hy : X.N[i]? = some y) (hyl : X.env.scope.names.lookup y = some .local)
    (hsw : swapsWith (.ListComp elt [⟨tg, iter, ifs, 0⟩, ⟨tg1, iter1, ifs1, 0⟩] scope pos) (some (.Name y py)) spos.line X.env = pure true) (hi : XI X tg iter it) (ok : BlkOk X.N X.env.scope scope own) (gs : GS X.K gg t) (hv : ∀ i ∈ t.slots, i ∈ own.map (·.2)) (gs1 : GS X.K g1 t1) (hv1 : ∀ i ∈ t1.slots, i ∈ vs1) (hsub : ∀ i ∈ vs1, i ∈ own.map (·.2))
    (hg : ∀ (s : Shared) (H : Hp) (C : Addr) (cl : List (Str × Addr)) (fp : List Addr), PG (X.blk s H scope (compEnvC scope cl C X.env) fp) tg gg) (ht : ∀ (s : Shared) (H : Hp) (C : Addr) (cl : List (Str × Addr)) (fp : List Addr), XTs (X.blk s H scope (compEnvC scope cl C X.env) fp) ifs tt)
    (hi1 : ∀ (s : Shared) (H : Hp) (C : Addr) (cl : List (Str × Addr)) (fp : List Addr), XJ (X.blk s H scope (compEnvC scope cl C X.env) fp) tg1 iter1 it1)
    (hg1 : ∀ (s : Shared) (H : Hp) (C : Addr) (cl : List (Str × Addr)) (fp : List Addr), PG (X.blk s H scope (compEnvC scope cl C X.env) fp) tg1 g1) (ht1 : ∀ (s : Shared) (H : Hp) (C : Addr) (cl : List (Str × Addr)) (fp : List Addr), XTs (X.blk s H scope (compEnvC scope cl C X.env) fp) ifs1 tt1)
    (he : ∀ (s : Shared) (H : Hp) (C : Addr) (cl : List (Str × Addr)) (fp : List Addr), XV (X.blk s H scope (compEnvC scope cl C X.env) fp) elt te) (hs : ∀ x, foldedSetIterable iter X.env x = pure x := by intro _; rfl) (hs1 : ∀ env x, foldedSetIterable iter1 env x = pure x := by intro _ _; rfl) :
    XS X (.Assign [.Name y py] (.ListComp elt [⟨tg, iter, ifs, 0⟩, ⟨tg1, iter1, ifs1, 0⟩] scope pos) spos) (sSet i (vLc2 (own.map (·.2)) vs1 it t tt it1 t1 tt1 te)) :=
  (ps_setLc2 hc hN hy hyl hsw hi ok hsub hg ht hi1 hg1 ht1 he hs hs1).weak fun D σ H h => by
    have := set_read h
    exact lc2_read gs gs1 hv hv1 hsub (K := X.K) (by
      obtain ⟨G, H0, δ, r, δ', eK, R, e, q⟩ := this
      exact ⟨G, H0, δ, r, δ', eK, R, e, q⟩)
end
end IP
end
section
set_option Elab.async false
set_option linter.all false
set_option maxRecDepth 100000
/-! Snd17: a comprehension within a comprehension: its scope. -/
namespace IP
open PySem L2
theorem lookup_rel {env : PySem.Env} : ∀ {names : List (Str × NameKind)} {x : Str}, names.lookup x = some .cell ∨ names.lookup x = some .free →
    (names.map fun (n, k) => if (k == NameKind.free && env.scope.kind == .function && env.kindOf n == some .cell) then (n, NameKind.cell) else (n, k)).lookup x = some .cell ∨
    (names.map fun (n, k) => if (k == NameKind.free && env.scope.kind == .function && env.kindOf n == some .cell) then (n, NameKind.cell) else (n, k)).lookup x = some .free
  | [], _, h => by simp at h
  | (n, k) :: r, x, h => by
    have ih := @lookup_rel env r x
    rw [List.map_cons]
    show List.lookup x ((if (k == NameKind.free && env.scope.kind == .function && env.kindOf n == some .cell) = true then (n, NameKind.cell) else (n, k)) :: _) = _ ∨ List.lookup x ((if (k == NameKind.free && env.scope.kind == .function && env.kindOf n == some .cell) = true then (n, NameKind.cell) else (n, k)) :: _) = _
    by_cases hc : (k == NameKind.free && env.scope.kind == .function && env.kindOf n == some .cell) = true
    · rw [if_pos hc]
      cases hx : x == n with
      | true =>
        left
        rw [List.lookup_cons, hx]
      | false =>
        rw [List.lookup_cons, hx] at h
        rw [List.lookup_cons, hx]
        exact ih h
    · rw [if_neg hc]
      cases hx : x == n with
      | true =>
        rw [List.lookup_cons, hx] at h
        rw [List.lookup_cons, hx]
        exact h
      | false =>
        rw [List.lookup_cons, hx] at h
        rw [List.lookup_cons, hx]
        exact ih h
theorem blkOk_rel {N : List Str} {sc scope : Scope} {env : PySem.Env} {own : List (Str × Nat)} (h : blkC N sc scope own = true) : BlkOk N (relabel sc env) scope own := by
  have b := blkOk_by h
  exact ⟨b.kind, b.uniq, b.ix, fun y hy e => lookup_rel (b.free y hy e), b.own⟩
end IP
end
section
set_option linter.all false
/-! IO: objects of one class with six fields, the second one their own list. -/
namespace IP
open PySem
/-- the fields of the object of a variable -/
@[simp] def obAt (δ : Env) (i : Nat) : Option (List D) := match δ[i]? with
  | some (.obj fs) => some fs
  | some (.pob fs) => some fs
  | _ => none
@[simp] def obPut (δ : Env) (i : Nat) (fs : List D) : Env := match δ[i]? with
  | some (.obj _) => δ.set i (.obj fs)
  | some (.pob _) => δ.set i (.pob fs)
  | _ => δ
@[simp] def rowOf : List D → Option (List D)
  | [_, .list ds, _, _, _, _] => some ds
  | _ => none
/-- x.f -/
@[simp] def vFld (i k : Nat) : Ev := fun δ => if k = 1 then none else (obAt δ i).bind fun fs => fs[k]?.map fun d => (.dat d, δ)
/-- len(x.row), tuple(x.row), x.row[-y] -/
@[simp] def vFLen (i : Nat) : Ev := fun δ => ((obAt δ i).bind rowOf).map fun ds => (.dat (.int ds.length), δ)
@[simp] def vFTup (i : Nat) : Ev := fun δ => ((obAt δ i).bind rowOf).map fun ds => (.dat (.tuple ds), δ)
@[simp] def vFIx (i j : Nat) : Ev := fun δ => ((obAt δ i).bind rowOf).bind fun ds => match δ[j]? with
  | some (.dat (.int b)) => (atD ds (-b)).map fun d => (.dat d, δ)
  | _ => none
/-- x.f = e -/
@[simp] def sFld (i k : Nat) (f : Ev) : Es := fun δ => if k = 1 then none else (f δ).bind fun p => (obAt p.2 i).bind fun fs => if k < fs.length then some (.nx, obPut p.2 i (fs.set k p.1.toD)) else none
/-- x.f op= e, of ints -/
@[simp] def sFAug (i k : Nat) (op : Int → Int → Int) (f : Eo) : Es := fun δ => if k = 1 then none else (obAt δ i).bind fun fs => match fs[k]? with
  | some (.int a) => (f δ).bind fun p => match p.1 with
    | .val (.int b) => (obAt p.2 i).bind fun gs => if k < gs.length then some (.nx, obPut p.2 i (gs.set k (.int (op a b)))) else none
    | _ => none
  | _ => none
@[simp] def rowPut (x : D) : List D → Option (List D)
  | [a, .list ds, b, c, d, e] => if ds.length < line then some [a, .list (ds ++ [x]), b, c, d, e] else none
  | _ => none
/-- x.row.append(y) -/
@[simp] def sFApp (i j : Nat) : Es := fun δ => (obAt δ i).bind fun fs => match δ[j]? with
  | some (.dat x) => (rowPut x fs).map fun gs => (.nx, obPut δ i gs)
  | _ => none
/-- x.m(e, ..), f(x, e, ..): the object by reference -/
@[simp] def vMeth (c : Fnc) (i : Nat) (A : Ea) : Ev := fun δ => (obAt δ i).bind fun _ => (A δ).bind fun p => (vals p.1).bind fun ds => (obAt p.2 i).bind fun fs => (c (some fs) ds).bind fun r => match r.2 with
  | some gs => some (r.1, obPut p.2 i gs)
  | none => none
/-- x = f(e, ..), a new object -/
@[simp] def sCallN (i : Nat) (c : Fnc) (A : Ea) : Es := fun δ => (A δ).bind fun p => (vals p.1).bind fun ds => (c none ds).bind fun r => match r.2 with
  | some fs => (setSlot p.2 i (.obj fs)).map fun δ' => (.nx, δ')
  | none => none
/-- f(e, ..).f, f(e, ..).m() -/
@[simp] def vCallNFld (c : Fnc) (A : Ea) (k : Nat) : Ev := fun δ => if k = 1 then none else (A δ).bind fun p => (vals p.1).bind fun ds => (c none ds).bind fun r => match r.2 with
  | some fs => fs[k]?.map fun d => (.dat d, p.2)
  | none => none
@[simp] def vCallNMeth (c : Fnc) (A : Ea) (m : Fnc) : Ev := fun δ => (A δ).bind fun p => (vals p.1).bind fun ds => (c none ds).bind fun r => match r.2 with
  | some fs => (m (some fs) []).bind fun z => match z.2 with
    | some _ => some (z.1, p.2)
    | none => none
  | none => none
/-- return x -/
@[simp] def sRetG (i : Nat) : Es := fun δ => match δ[i]? with
  | some (.obj _) => some (.ro i, δ)
  | _ => none
@[simp] def Fn.start (F : Fn) (o : Option Slot) (ds : List D) : Option Env := match o with
  | some s => if ds.length + 1 = F.nps then some (s :: (ds.map .dat ++ List.replicate (F.names - F.nps) .un)) else none
  | none => if ds.length = F.nps then some (ds.map .dat ++ List.replicate (F.names - F.nps) .un) else none
/-- a def whose first parameter is an object -/
@[simp] def Fn.runG (F : Fn) : Fnc := fun r ds => match r with
  | some fs => (F.start (some (.pob fs)) ds).bind fun δ0 => (F.body δ0).bind fun p => match p.1, (p.2[0]? : Option Slot) with
    | .nx, some (.pob gs) => some (.dat .none, some gs)
    | .rt r, some (.pob gs) => some (r, some gs)
    | _, _ => none
  | none => none
/-- a def that returns a new object -/
@[simp] def Fn.runN (F : Fn) : Fnc := fun r ds => match r with
  | some _ => none
  | none => (F.start none ds).bind fun δ0 => (F.body δ0).bind fun p => match p.1 with
    | .ro i => match (p.2[i]? : Option Slot) with
      | some (.obj fs) => some (.dat .none, some fs)
      | _ => none
    | _ => none
/-- Growth(p) -/
def newG : Fnc := fun r ds => match r, ds with
  | none, [p] => some (.dat .none, some [p, .list [], .int 0, .list [.int 1], .list [.int 1], .int 1])
  | _, _ => none
end IP
end
section
set_option Elab.async false
set_option linter.all false
set_option maxRecDepth 100000
set_option maxHeartbeats 2000000
namespace IP
open PySem L2
def gX : Nat → Str
  | 0 => "prime"
  | 1 => "row"
  | 2 => "length"
  | 3 => "low"
  | 4 => "older"
  | _ => "shift"
def gV (v0 : V) (q : Addr) (v2 v3 v4 v5 : V) : Nat → V
  | 0 => v0
  | 1 => .ref q
  | 2 => v2
  | 3 => v3
  | 4 => v4
  | _ => v5
theorem gFs_lookup (v0 : V) (q : Addr) (v2 v3 v4 v5 : V) : ∀ k, (gFs v0 q v2 v3 v4 v5).lookup (gX k) = some (gV v0 q v2 v3 v4 v5 k)
  | 0 => by simp [gFs, gX, gV, List.lookup]
  | 1 => by
    have h : (("row" : Str) == "prime") = false := by decide +kernel
    simp [gFs, gX, gV, List.lookup, h]
  | 2 => by
    have h : (("length" : Str) == "prime") = false := by decide +kernel
    have h1 : (("length" : Str) == "row") = false := by decide +kernel
    simp [gFs, gX, gV, List.lookup, h, h1]
  | 3 => by
    have h : (("low" : Str) == "prime") = false := by decide +kernel
    have h1 : (("low" : Str) == "row") = false := by decide +kernel
    have h2 : (("low" : Str) == "length") = false := by decide +kernel
    simp [gFs, gX, gV, List.lookup, h, h1, h2]
  | 4 => by
    have h : (("older" : Str) == "prime") = false := by decide +kernel
    have h1 : (("older" : Str) == "row") = false := by decide +kernel
    have h2 : (("older" : Str) == "length") = false := by decide +kernel
    have h3 : (("older" : Str) == "low") = false := by decide +kernel
    simp [gFs, gX, gV, List.lookup, h, h1, h2, h3]
  | k + 5 => by
    have h : (("shift" : Str) == "prime") = false := by decide +kernel
    have h1 : (("shift" : Str) == "row") = false := by decide +kernel
    have h2 : (("shift" : Str) == "length") = false := by decide +kernel
    have h3 : (("shift" : Str) == "low") = false := by decide +kernel
    have h4 : (("shift" : Str) == "older") = false := by decide +kernel
    simp [gFs, gX, gV, List.lookup, h, h1, h2, h3, h4]
theorem ne_of_beq {a b : Str} (h : (a == b) = false) : ¬ a = b := by simpa using h
def gPut (v : V) (v0 : V) (q : Addr) (v2 v3 v4 v5 : V) : Nat → List (Str × V)
  | 0 => gFs v q v2 v3 v4 v5
  | 1 => gFs v0 q v2 v3 v4 v5
  | 2 => gFs v0 q v v3 v4 v5
  | 3 => gFs v0 q v2 v v4 v5
  | 4 => gFs v0 q v2 v3 v v5
  | _ => gFs v0 q v2 v3 v4 v
theorem gFs_put (v : V) (v0 : V) (q : Addr) (v2 v3 v4 v5 : V) : ∀ k, k ≠ 1 → putF (gX k) v (gFs v0 q v2 v3 v4 v5) = gPut v v0 q v2 v3 v4 v5 k
  | 0, _ => by simp [gFs, gX, gPut, putF]
  | 1, h => absurd rfl h
  | 2, _ => by
    have h : ¬ (("prime" : Str) = "length") := by decide +kernel
    have h1 : ¬ (("row" : Str) = "length") := by decide +kernel
    simp [gFs, gX, gPut, putF, h, h1]
  | 3, _ => by
    have h : ¬ (("prime" : Str) = "low") := by decide +kernel
    have h1 : ¬ (("row" : Str) = "low") := by decide +kernel
    have h2 : ¬ (("length" : Str) = "low") := by decide +kernel
    simp [gFs, gX, gPut, putF, h, h1, h2]
  | 4, _ => by
    have h : ¬ (("prime" : Str) = "older") := by decide +kernel
    have h1 : ¬ (("row" : Str) = "older") := by decide +kernel
    have h2 : ¬ (("length" : Str) = "older") := by decide +kernel
    have h3 : ¬ (("low" : Str) = "older") := by decide +kernel
    simp [gFs, gX, gPut, putF, h, h1, h2, h3]
  | k + 5, _ => by
    have h : ¬ (("prime" : Str) = "shift") := by decide +kernel
    have h1 : ¬ (("row" : Str) = "shift") := by decide +kernel
    have h2 : ¬ (("length" : Str) = "shift") := by decide +kernel
    have h3 : ¬ (("low" : Str) = "shift") := by decide +kernel
    have h4 : ¬ (("older" : Str) = "shift") := by decide +kernel
    simp [gFs, gX, gPut, putF, h, h1, h2, h3, h4]
section
variable {K : PySem.W.Frag} {A B H H' : Hp} {p q : Addr} {fs gs : List D} {G : Gx} {δ δ' : Env} {σ : L2.St} {i : Nat}
/-- a field of an object -/
theorem ObAt.fld (h : ObAt K A H p q fs) {k : Nat} {d : D} (hk : k ≠ 1) (e : fs[k]? = some d) : ∃ dx l v, H p = some (.ins (GC K) dx l) ∧ l.lookup (gX k) = some v ∧ Rel K A v d := by
  obtain ⟨dx, v0, v2, v3, v4, v5, rs, d0, ds, d2, d3, d4, d5, h⟩ := h
  refine ⟨dx, _, _, h.hp, gFs_lookup _ _ _ _ _ _ k, ?_⟩
  rw [h.fs] at e
  match k, hk, e with
  | 0, _, e =>
    cases e
    exact h.r0
  | 2, _, e =>
    cases e
    exact h.r2
  | 3, _, e =>
    cases e
    exact h.r3
  | 4, _, e =>
    cases e
    exact h.r4
  | 5, _, e =>
    cases e
    exact h.r5
  | k + 6, _, e => simp at e
theorem ObAt.row_ (h : ObAt K A H p q fs) {ds : List D} (e : rowOf fs = some ds) : ∃ dx l rs, H p = some (.ins (GC K) dx l) ∧ l.lookup (gX 1) = some (.ref q) ∧ H q = some (.lst rs) ∧ RelAll K A rs ds := by
  obtain ⟨dx, v0, v2, v3, v4, v5, rs, d0, ds', d2, d3, d4, d5, h⟩ := h
  refine ⟨dx, _, rs, h.hp, gFs_lookup _ _ _ _ _ _ 1, h.hq, ?_⟩
  rw [h.fs] at e
  cases e
  exact h.rr
/-- a field is written -/
theorem ObAt.setF (h : ObAt K A H p q fs) {k : Nat} {v : V} {d : D} (hk : k ≠ 1) (hl : k < fs.length) (r : Rel K A v d) : ∃ dx l, H p = some (.ins (GC K) dx l) ∧ l.length = 6 ∧ ObAt K A (upd H p (.ins (GC K) dx (putF (gX k) v l))) p q (fs.set k d) := by
  have hne := h.ne
  obtain ⟨dx, v0, v2, v3, v4, v5, rs, d0, ds', d2, d3, d4, d5, h⟩ := h
  refine ⟨dx, _, h.hp, rfl, ?_⟩
  rw [gFs_put _ _ _ _ _ _ _ _ hk]
  have hq : ∀ o, upd H p o q = some (.lst rs) := fun o => by
    rw [upd_ne (Ne.symm hne)]
    exact h.hq
  have hf := h.fs
  subst hf
  match k, hk, hl with
  | 0, _, _ => exact ⟨dx, _, _, _, _, _, _, _, _, _, _, _, _, rfl, upd_same, hq _, h.rr, r, h.r2, h.r3, h.r4, h.r5, h.np, h.nq⟩
  | 2, _, _ => exact ⟨dx, _, _, _, _, _, _, _, _, _, _, _, _, rfl, upd_same, hq _, h.rr, h.r0, r, h.r3, h.r4, h.r5, h.np, h.nq⟩
  | 3, _, _ => exact ⟨dx, _, _, _, _, _, _, _, _, _, _, _, _, rfl, upd_same, hq _, h.rr, h.r0, h.r2, r, h.r4, h.r5, h.np, h.nq⟩
  | 4, _, _ => exact ⟨dx, _, _, _, _, _, _, _, _, _, _, _, _, rfl, upd_same, hq _, h.rr, h.r0, h.r2, h.r3, r, h.r5, h.np, h.nq⟩
  | 5, _, _ => exact ⟨dx, _, _, _, _, _, _, _, _, _, _, _, _, rfl, upd_same, hq _, h.rr, h.r0, h.r2, h.r3, h.r4, r, h.np, h.nq⟩
  | k + 6, _, hl =>
    simp at hl
    omega
/-- its own list grows -/
theorem ObAt.putR (h : ObAt K A H p q fs) {v : V} {d : D} (e : rowPut d fs = some gs) (r : Rel K A v d) : ∃ rs, H q = some (.lst rs) ∧ rs.length < line ∧ ObAt K A (upd H q (.lst (rs ++ [v]))) p q gs := by
  have hne := h.ne
  obtain ⟨dx, v0, v2, v3, v4, v5, rs, d0, ds', d2, d3, d4, d5, h⟩ := h
  have hf := h.fs
  subst hf
  simp only [rowPut] at e
  split at e
  · rename_i hl
    cases e
    refine ⟨rs, h.hq, by rw [h.rr.length]; exact hl, dx, v0, v2, v3, v4, v5, _, _, _, _, _, _, _, rfl, ?_, upd_same, h.rr.append (.cons r .nil), h.r0, h.r2, h.r3, h.r4, h.r5, h.np, h.nq⟩
    rw [upd_ne hne]
    exact h.hp
  · cases e
/-- the object of a variable -/
theorem ob_at (R : Rl G A H δ σ) (e : obAt δ i = some fs) : ∃ s p q, δ[i]? = some s ∧ isOwn s = true ∧ isOb s = true ∧ (s = .obj fs ∨ s = .pob fs) ∧ σ[i]? = some (some (.ref p)) ∧ ObAt G.K A H p q fs := by
  unfold obAt at e
  cases es : δ[i]? with
  | none =>
    rw [es] at e
    cases e
  | some s =>
    rw [es] at e
    have sj := R.slot i s es
    cases s with
    | obj gs =>
      cases e
      obtain ⟨p, q, e1, e2, _⟩ := sj
      exact ⟨_, p, q, rfl, rfl, rfl, .inl rfl, e1, e2⟩
    | pob gs =>
      cases e
      obtain ⟨p, q, e1, _, _, e2⟩ := sj
      exact ⟨_, p, q, rfl, rfl, rfl, .inr rfl, e1, e2⟩
    | _ => cases e
theorem obPut_get {s : Slot} (e : δ[i]? = some s) (h : isOb s = true) : ∃ s', obPut δ i gs = δ.set i s' ∧ isOb s' = true ∧ isOwn s' = true ∧ isPrm s' = isPrm s ∧ ((s' = .obj gs ∧ ∃ fs, s = .obj fs) ∨ (s' = .pob gs ∧ ∃ fs, s = .pob fs)) := by
  unfold obPut
  rw [e]
  cases s with
  | obj fs => exact ⟨_, rfl, rfl, rfl, rfl, .inl ⟨rfl, fs, rfl⟩⟩
  | pob fs => exact ⟨_, rfl, rfl, rfl, rfl, .inr ⟨rfl, fs, rfl⟩⟩
  | _ => cases h
/-- the heap has grown, an object has changed -/
theorem Rl.growOb (R : Rl G A H δ σ) {s : Slot} (e : δ[i]? = some s) (hob : isOb s = true) (hi : σ[i]? = some (some (.ref p))) (ob : ObAt G.K A H p q fs)
    (hH : ∀ a o, H a = some o → a ≠ p → a ≠ q → H' a = some o) (h0 : Sub A B) (hs : Sub B H') (hf : Fro A H B) (ob' : ObAt G.K B H' p q gs) : Rl G B H' (obPut δ i gs) σ := by
  obtain ⟨s', ep, hob', how', hpr', hs'⟩ := obPut_get (gs := gs) e hob
  rw [ep]
  have how : isOwn s = true := by cases s <;> first | rfl | cases hob
  have hlt : i < δ.length := (List.getElem?_eq_some_iff.mp e).1
  have hp := Holds.of (H := H) e how hi
  have hq := Holds.ofRow (H := H) e how hob hi ob.row
  have far : ∀ {j : Nat} {u : Slot} {a : Addr}, i ≠ j → δ[j]? = some u → isOwn u = true → Foot H σ j u a → a ≠ p ∧ a ≠ q := fun {j u a} hj h1 h2 h3 => ⟨fun z => by
    subst z
    exact hj (R.inj i j a hp ⟨u, h1, h2, h3⟩), fun z => by
    subst z
    exact hj (R.inj i j a hq ⟨u, h1, h2, h3⟩)⟩
  have fro : ∀ a o, H a = some o → A a = none → B a = none := fun a o e n => by
    cases z : B a with
    | none => rfl
    | some u =>
      rcases hf a u z with ⟨w, hw⟩ | hw
      · rw [n] at hw
        cases hw
      · rw [e] at hw
        cases hw
  have back : ∀ j a, Holds H' (δ.set i s') σ j a → Holds H δ σ j a := fun j a ⟨u, u1, u2, pj, u3, u4⟩ => by
    by_cases hj : i = j
    · subst hj
      rw [hi] at u3
      cases u3
      rcases u4 with rfl | ⟨_, u4⟩
      · exact hp
      · rw [u4.inj ob'.row]
        exact hq
    · rw [List.getElem?_set_ne hj] at u1
      refine ⟨u, u1, u2, pj, u3, ?_⟩
      rcases u4 with u4 | ⟨u4, u5⟩
      · exact .inl u4
      · obtain ⟨qj, fj, obj_, _⟩ := R.ob u1 u4 u3
        have nf := far hj u1 u2 ⟨pj, u3, .inl rfl⟩
        have r := obj_.row.in (H' := H') fun o eo _ => hH pj o eo nf.1 nf.2
        rw [u5.inj r]
        exact .inr ⟨u4, obj_.row⟩
  refine ⟨by rw [List.length_set]; exact R.len, hs, R.up.trans h0, fun a o eo h h' => ?_, fun a o eo => ?_, fun j u h => ?_, fun a b z h1 h2 => R.inj a b z (back _ _ h1) (back _ _ h2), fun z hz => ?_, fun w hw => ?_, tabs_te (tabs_fro R.tabs fun a o e => (hf a o e).imp id .inl) fun a o e t => hH a o e (fun z => by subst z; obtain ⟨C, dx, l, y⟩ := ob.hp; rw [y] at e; cases e; exact t) (fun z => by subst z; obtain ⟨rs, y⟩ := ob.hq; rw [y] at e; cases e; exact t)⟩
  · have n : ∀ {b}, Holds H δ σ i b → a ≠ b := fun {b} hb z => by
      subst z
      rcases (R.held hb).2.2 with x | ⟨z, x1, x2⟩ | x
      · rw [eo] at x
        cases x
      · exact h z x1 x2
      · exact h' x
    exact hH a o (R.keep a o eo h h') (n hp) (n hq)
  · rcases hf a o eo with ⟨u, h⟩ | h
    · exact R.fro a u h
    · exact .inr (R.fresh h).2.1
  · by_cases hj : i = j
    · subst hj
      rw [List.getElem?_set_self hlt] at h
      cases h
      have sj := R.slot i s e
      rcases hs' with ⟨rfl, f, rfl⟩ | ⟨rfl, f, rfl⟩
      · obtain ⟨p', q', x1, x2, x3, x4⟩ := sj
        rw [hi] at x1
        cases x1
        obtain rfl := x2.row.inj ob.row
        exact ⟨p, q', hi, ob', x3, x4⟩
      · obtain ⟨p', q', x1, x0, x3, x2⟩ := sj
        rw [hi] at x1
        cases x1
        obtain rfl := x2.row.inj ob.row
        exact ⟨p, q', hi, x0, x3, ob'⟩
    · rw [List.getElem?_set_ne hj] at h
      refine (R.slot j u h).mono h0 (fun a o eo h1 h2 => ?_) (fun a h1 h2 n => ?_)
      · have nf := far hj h h1 h2
        exact hH a o eo nf.1 nf.2
      · obtain ⟨⟨o, eo⟩, _⟩ := R.held ⟨u, h, h1, h2⟩
        exact fro a o eo n
  · obtain ⟨u, e1, e2, e3⟩ := R.prs z hz
    by_cases hj : i = z.1
    · subst hj
      rw [e1] at e
      cases e
      exact ⟨s', List.getElem?_set_self hlt, by rw [hpr']; exact e2, e3⟩
    · exact ⟨u, by rw [List.getElem?_set_ne hj]; exact e1, e2, e3⟩
  · obtain ⟨j, fj, pj, e1, e2, e3⟩ := R.qrs w hw
    by_cases hj : i = j
    · subst hj
      rw [e1] at e
      cases e
      rw [hi] at e2
      cases e2
      obtain rfl := e3.inj ob.row
      rcases hs' with ⟨rfl, f, z⟩ | ⟨rfl, f, z⟩
      · cases z
      · exact ⟨i, gs, p, List.getElem?_set_self hlt, hi, ob'.row⟩
    · have nf := far hj e1 rfl ⟨pj, e2, .inl rfl⟩
      exact ⟨j, fj, pj, by rw [List.getElem?_set_ne hj]; exact e1, e2, e3.in fun o eo _ => hH pj o eo nf.1 nf.2⟩
/-- .. by one store -/
theorem Rl.oneOb (R : Rl G A H δ σ) {s : Slot} (e : δ[i]? = some s) (hob : isOb s = true) (hi : σ[i]? = some (some (.ref p))) (ob : ObAt G.K A H p q fs) {a : Addr} {o : HO} (ha : a = p ∨ a = q) (ob' : ObAt G.K A (upd H a o) p q gs) : Rl G A (upd H a o) (obPut δ i gs) σ := by
  have na : A a = none := by
    rcases ha with rfl | rfl
    · exact ob.np
    · exact ob.nq
  refine R.growOb e hob hi ob (fun b u eb h1 h2 => ?_) (Sub.refl _) (fun b u eb => ?_) Fro.refl ob'
  · rw [upd_ne (fun z => by
      subst z
      rcases ha with rfl | rfl
      · exact h1 rfl
      · exact h2 rfl)]
    exact eb
  · rw [upd_ne (ne_of_none eb na)]
    exact R.sub b u eb
end
end IP
end
section
set_option Elab.async false
set_option linter.all false
set_option maxRecDepth 100000
set_option maxHeartbeats 2000000
namespace IP
open PySem L2
/-- what is asked of the class -/
structure GT (K : PySem.W.Frag) : Prop where
  cls : Cls K (GC K)
  no : ∀ k, NoAttr K (GC K) (gX k)
/-- no field has the name -/
def gFree (m : Str) : Prop := ¬ m = "prime" ∧ ¬ m = "row" ∧ ¬ m = "length" ∧ ¬ m = "low" ∧ ¬ m = "older" ∧ ¬ m = "shift"
theorem gFree_look {m : Str} (h : gFree m) (v0 : V) (q : Addr) (v2 v3 v4 v5 : V) : (gFs v0 q v2 v3 v4 v5).lookup m = none := by
  obtain ⟨h0, h1, h2, h3, h4, h5⟩ := h
  have b : ∀ {x : Str}, ¬ m = x → (m == x) = false := fun h => by simpa using h
  simp [gFs, List.lookup, b h0, b h1, b h2, b h3, b h4, b h5]
/-- what a def promises whose first parameter is an object -/
def spG (K : PySem.W.Frag) (c : Fnc) : Sp := fun vs H Q _ => ∃ (H0 : Hp) (ds : List D) (r : Res) (p q : Addr) (fs gs : List D) (ws : List V), Sub H0 H ∧ vs = .ref p :: ws ∧ RelAll K H0 ws ds ∧ ObAt K H0 H p q fs ∧ c (some fs) ds = some (r, some gs) ∧
  ∀ v H0' H', Sub H0 H0' → Sub H0' H' → (∀ a o, H a = some o → a ≠ p → a ≠ q → H' a = some o) → Fro H0 H H0' → ObAt K H0' H' p q gs → RetOk K H H0' H' r v → Q v H'
/-- .. a def that returns a new object -/
def spN (K : PySem.W.Frag) (c : Fnc) : Sp := fun vs H Q _ => ∃ (H0 : Hp) (ds : List D) (r : Res) (fs : List D), Sub H0 H ∧ RelAll K H0 vs ds ∧ c none ds = some (r, some fs) ∧
  ∀ p q H0' H', Sub H0 H0' → Sub H0' H' → Sub H H' → Fro H0 H H0' → ObAt K H0' H' p q fs → H p = none → H q = none → Q (.ref p) H'
/-- __init__ of a new object -/
def spInit (K : PySem.W.Frag) : Sp := fun vs H Q _ => ∃ (p dx : Addr) (v : V), vs = [.ref p, v] ∧ H p = some (.ins (GC K) dx []) ∧
  ∀ q l o H', H q = none → H l = none → H o = none → q ≠ l → q ≠ o → l ≠ o → H' p = some (.ins (GC K) dx (gFs v q (.int 0) (.ref l) (.ref o) (.int 1))) → H' q = some (.lst []) → H' l = some (.lst [.int 1]) → H' o = some (.lst [.int 1]) →
    (∀ a u, H a = some u → a ≠ p → H' a = some u) → Q .non H'
theorem spG_none {K : PySem.W.Frag} {vs : List V} {H : Hp} {Q : VK} {E : XK} (h : spG K (fun _ _ => none) vs H Q E) : False := by
  obtain ⟨_, _, _, _, _, _, _, _, _, _, _, _, e, _⟩ := h
  cases e
theorem spN_none {K : PySem.W.Frag} {vs : List V} {H : Hp} {Q : VK} {E : XK} (h : spN K (fun _ _ => none) vs H Q E) : False := by
  obtain ⟨_, _, _, _, _, _, e, _⟩ := h
  cases e
theorem fnG_none {P : Program} {w : World} {K : PySem.W.Frag} {mg : Str → Option Value} {base : Heap} {f : Addr} {fd : FuncData} {ps : List Str} : FnOk P w K mg base CX0 0 f fd ps (spG K fun _ _ => none) :=
  ⟨fun vs H Q E h => (spG_none h).elim, fun A outer s H args us vs Q E _ _ _ _ h => (spG_none h).elim⟩
theorem fnN_none {P : Program} {w : World} {K : PySem.W.Frag} {mg : Str → Option Value} {base : Heap} {f : Addr} {fd : FuncData} {ps : List Str} : FnOk P w K mg base CX0 0 f fd ps (spN K fun _ _ => none) :=
  ⟨fun vs H Q E h => (spN_none h).elim, fun A outer s H args us vs Q E _ _ _ _ h => (spN_none h).elim⟩
section
variable {X : Cx} {K : PySem.W.Frag} {i j k : Nat} {y : Str} {py pos ap cp : Pos}
theorem fld_read (T : GT X.K) (hk : k ≠ 1) {G : Gx} {A H : Hp} {δ : Env} {σ : L2.St} {fs : List D} {d : D} {Q : VK} (eK : G.K = X.K) (R : Rl G A H δ σ) (e : obAt δ i = some fs) (ed : fs[k]? = some d) (q : ∀ v, Rel G.K A v d → Q v H) : tFld X.K (tVar i) (gX k) σ H Q := by
  obtain ⟨s, p, q', x1, x2, x3, x4, x5, x6⟩ := ob_at R e
  obtain ⟨dx, l, v, y1, y2, y3⟩ := x6.fld hk ed
  refine ⟨.ref p, x5, p, _, dx, l, v, rfl, y1, ?_, ?_, y2, q v y3⟩
  · rw [eK]
    exact T.cls
  · rw [eK]
    exact T.no k
/-- x.f -/
theorem x_fld (T : GT X.K) (hv : PE X (.Name y py) (tVar i)) (hb : attributeBase (.Name y py) (gX k) X.env (eval (.Name y py) X.env) = eval (.Name y py) X.env := by rfl) : XV X (.Attribute (.Name y py) (gX k) pos) (vFld i k) :=
  (pe_fld hv hb).weak fun σ H Q ⟨G, H0, δ, r, δ', eK, R, e, q⟩ => by
    simp only [vFld] at e
    split at e
    · cases e
    · rename_i hk
      simp only [Option.bind_eq_some_iff, Option.map_eq_some_iff] at e
      obtain ⟨fs, e1, d, e2, e3⟩ := e
      cases e3
      exact fld_read T hk eK R e1 e2 fun v r => q v _ _ R (Sub.refl _) r
theorem row_read (T : GT X.K) {G : Gx} {A H : Hp} {δ : Env} {σ : L2.St} {fs ds : List D} {Q : VK} (eK : G.K = X.K) (R : Rl G A H δ σ) (e : (obAt δ i).bind rowOf = some ds) (q : ∀ p rs, H p = some (.lst rs) → RelAll G.K A rs ds → Q (.ref p) H) : tFld X.K (tVar i) (gX 1) σ H Q := by
  simp only [Option.bind_eq_some_iff] at e
  obtain ⟨fs, e1, e2⟩ := e
  obtain ⟨s, p, q', x1, x2, x3, x4, x5, x6⟩ := ob_at R e1
  obtain ⟨dx, l, rs, y1, y2, y3, y4⟩ := x6.row_ e2
  refine ⟨.ref p, x5, p, _, dx, l, _, rfl, y1, ?_, ?_, y2, q _ rs y3 y4⟩
  · rw [eK]
    exact T.cls
  · rw [eK]
    exact T.no 1
/-- len(x.row) -/
theorem x_flen (T : GT X.K) (hv : PE X (.Name y py) (tVar i)) {ap : Pos} {p : Pos} (hg : Gl X "len") (hm : X.mg "len" = none) (hvv : bootBuiltins "len" = some (.builtin "len")) (hb : attributeBase (.Name y py) (gX 1) X.env (eval (.Name y py) X.env) = eval (.Name y py) X.env := by rfl)
    (h1 : starEach [.Attribute (.Name y py) (gX 1) ap] X.env = (false, eval (.Attribute (.Name y py) (gX 1) ap) X.env) :: starEach [] X.env := by rfl) (h2 : (backTo pos (starEach [] X.env)).any (·.1) = false := by rfl) :
    XV X (.Call (.Name "len" p) [.Attribute (.Name y py) (gX 1) ap] [] pos) (vFLen i) :=
  (pe_callB call_len_seq hg hm hvv (pa_cons (pe_fld hv hb) pa_nil h1) (by decide) (by decide) h1 h2).weak fun σ H Q ⟨G, H0, δ, r, δ', eK, R, e, q⟩ => by
    simp only [vFLen, Option.map_eq_some_iff] at e
    obtain ⟨ds, e1, e2⟩ := e
    cases e2
    refine row_read (fs := []) T eK R e1 fun p rs y3 y4 => ?_
    exact ⟨p, rs, rfl, .inl (SqL.of y3), q _ _ _ R (Sub.refl _) (by rw [y4.length]; exact .int _)⟩
/-- tuple(x.row) -/
theorem x_ftup (T : GT X.K) (hv : PE X (.Name y py) (tVar i)) {ap : Pos} {p : Pos} (hg : Gl X "tuple") (hm : X.mg "tuple" = none) (hvv : bootBuiltins "tuple" = some (.type "tuple")) (hb : attributeBase (.Name y py) (gX 1) X.env (eval (.Name y py) X.env) = eval (.Name y py) X.env := by rfl)
    (h1 : starEach [.Attribute (.Name y py) (gX 1) ap] X.env = (false, eval (.Attribute (.Name y py) (gX 1) ap) X.env) :: starEach [] X.env := by rfl) (h2 : (backTo pos (starEach [] X.env)).any (·.1) = false := by rfl) :
    XV X (.Call (.Name "tuple" p) [.Attribute (.Name y py) (gX 1) ap] [] pos) (vFTup i) :=
  (pe_callTy call_tuple_of hg hm hvv (pa_cons (pe_fld hv hb) pa_nil h1) (by decide) (by decide) h1 h2).weak fun σ H Q ⟨G, H0, δ, r, δ', eK, R, e, q⟩ => by
    simp only [vFTup, Option.map_eq_some_iff] at e
    obtain ⟨ds, e1, e2⟩ := e
    cases e2
    refine row_read (fs := []) T eK R e1 fun p rs y3 y4 => ?_
    refine ⟨p, rs, rfl, .inl ⟨SqL.of y3, fun l hl => ?_⟩⟩
    obtain ⟨R2, s2⟩ := R.laid0 (o := .tup rs) hl
    exact q _ _ _ R2 s2 (.tup upd_same (y4.sub s2))
/-- x.row[-z] -/
theorem x_fix (T : GT X.K) (hv : PE X (.Name y py) (tVar i)) {ap : Pos} {z : Str} {pz up : Pos} (hz : PE X (.Name z pz) (tVar j)) (hb : attributeBase (.Name y py) (gX 1) X.env (eval (.Name y py) X.env) = eval (.Name y py) X.env := by rfl)
    (hp : PlainIx (.UnaryOp .USub (.Name z pz) up) := by exact fun _ _ => rfl) : XV X (.Subscript (.Attribute (.Name y py) (gX 1) ap) (.UnaryOp .USub (.Name z pz) up) pos) (vFIx i j) :=
  (pe_ix ix_any (pe_fld hv hb) (pe_un un_neg hz) hp).weak fun σ H Q ⟨G, H0, δ, r, δ', eK, R, e, q⟩ => by
    simp only [vFIx, Option.bind_eq_some_iff] at e
    obtain ⟨ds, e1, e2⟩ := e
    cases ez : δ[j]? with
    | none =>
      rw [ez] at e2
      cases e2
    | some s =>
      rw [ez] at e2
      have sj := R.slot j s ez
      cases s with
      | dat d =>
        cases d with
        | int b =>
          simp only [Option.map_eq_some_iff] at e2
          obtain ⟨d, e3, e4⟩ := e2
          cases e4
          obtain ⟨v, x1, x2⟩ := sj
          cases x2
          refine row_read (fs := []) T eK R (by rw [Option.bind_eq_some_iff]; exact e1) fun p rs y3 y4 => ?_
          refine ⟨_, x1, b, rfl, ?_⟩
          exact s_ix G H0 H δ σ (.ref p) (.int (-b)) (.list ds) (.int (-b)) (.dat d) eK R (.inr ⟨p, rs, ds, rfl, rfl, y3, y4⟩) (.inl (.int _)) (by simp only [bIx, e3, Option.map_some]) Q fun v A B R1 s1 k1 => q v A B R1 s1 k1
        | _ => cases e2
      | _ => cases e2
/-- x.f = e -/
theorem xs_fld {e : Expr} {f : Ev} (T : GT X.K) (hv : PE X (.Name y py) (tVar i)) (he : XV X e f) (hs : swapsWith e (some (.Attribute (.Name y py) (gX k) ap)) pos.line X.env = pure false := by rfl) : XS X (.Assign [.Attribute (.Name y py) (gX k) ap] e pos) (IP.sFld i k f) :=
  (ps_fld hv he hs).weak fun D σ H ⟨G, H0, δ, o, δ', eK, R, e0, q⟩ => by
    simp only [IP.sFld] at e0
    split at e0
    · cases e0
    · rename_i hk
      simp only [Option.bind_eq_some_iff] at e0
      obtain ⟨⟨r, δ1⟩, e1, fs, e2, e3⟩ := e0
      split at e3
      · rename_i hl
        cases e3
        refine ⟨G, H0, δ, r, δ1, eK, R, e1, fun v A H1 R1 s1 k1 => ?_⟩
        obtain ⟨A2, R2, s2, k2⟩ := R1.toD k1
        obtain ⟨s, p, q', x1, x2, x3, x4, x5, x6⟩ := ob_at R2 e2
        obtain ⟨dx, l, y1, y2, y3⟩ := x6.setF hk hl k2
        refine ⟨.ref p, x5, p, _, dx, l, rfl, y1, ?_, ?_, by rw [y2]; decide, ?_⟩
        · rw [eK]
          exact T.cls
        · rw [eK]
          exact T.no k
        · exact q σ A2 _ (R2.oneOb x1 x3 x5 x6 (.inl rfl) y3) (s1.trans s2)
      · cases e3
/-- x.row.append(z) -/
theorem xs_fapp (T : GT X.K) (hv : PE X (.Name y py) (tVar i)) {mp : Pos} {z : Str} {pz : Pos} (hz : PE X (.Name z pz) (tVar j)) (hb : attributeBase (.Name y py) (gX 1) X.env (eval (.Name y py) X.env) = eval (.Name y py) X.env := by rfl)
    (hs : starEach [.Name z pz] X.env = (false, eval (.Name z pz) X.env) :: starEach [] X.env := by rfl)
    (hbase : attributeBase (.Attribute (.Name y py) (gX 1) ap) "append" X.env (eval (.Attribute (.Name y py) (gX 1) ap) X.env) = eval (.Attribute (.Name y py) (gX 1) ap) X.env := by rfl)
    (hfew : ((backTo cp (starEach [.Name z pz] X.env)).all (fun x => !x.1) && (backToKw cp (keywordEach [] X.env)).all (fun x => x.1.isSome)
      && decide ([Expr.Name z pz].length + ([] : List Keyword).length + (if ([] : List Keyword).isEmpty then 0 else 1) < 30)) = true := by rfl)
    (hline : (mp.endLine == cp.line) = true := by rfl) (hplain : (backTo cp (starEach [] X.env)).any (·.1) = false := by rfl) (hsw : swapsWith (.Call (.Attribute (.Attribute (.Name y py) (gX 1) ap) "append" mp) [.Name z pz] [] cp) none pos.line X.env = pure false := by rfl) :
    XS X (.Expr (.Call (.Attribute (.Attribute (.Name y py) (gX 1) ap) "append" mp) [.Name z pz] [] cp) pos) (sFApp i j) :=
  (ps_expr (pe_bm PySem.F.plainAttrs_list PySem.F.slot_list_append PySem.F.type_list_append mt_append (pe_fld hv hb) (pa_cons hz pa_nil hs) hbase hfew hline hs hplain) hsw).weak fun D σ H ⟨G, H0, δ, o, δ', eK, R, e, q⟩ => by
    simp only [sFApp, Option.bind_eq_some_iff] at e
    obtain ⟨fs, e1, e2⟩ := e
    cases ez : δ[j]? with
    | none =>
      rw [ez] at e2
      cases e2
    | some s =>
      rw [ez] at e2
      have sj := R.slot j s ez
      cases s with
      | dat d =>
        simp only [Option.map_eq_some_iff] at e2
        obtain ⟨gs, e3, e4⟩ := e2
        cases e4
        obtain ⟨v, z1, z2⟩ := sj
        obtain ⟨s, p, q', x1, x2, x3, x4, x5, x6⟩ := ob_at R e1
        obtain ⟨rs, y1, y2, y3⟩ := x6.putR e3 z2
        have hr : ∃ ds, (obAt δ i).bind rowOf = some ds := by
          rw [e1]
          obtain ⟨dx, v0, v2, v3, v4, v5, rs, d0, ds, d2, d3, d4, d5, h⟩ := x6
          have hf := h.fs
          subst hf
          exact ⟨ds, rfl⟩
        obtain ⟨ds, hr⟩ := hr
        have hq : RowOf H p q' := x6.row
        obtain ⟨dx, l, rs', w1, w2, w3, w4⟩ := x6.row_ (show rowOf fs = some ds by rw [e1] at hr; exact hr)
        refine ⟨.ref p, x5, p, _, dx, l, _, rfl, w1, ?_, ?_, w2, ?_⟩
        · rw [eK]
          exact T.cls
        · rw [eK]
          exact T.no 1
        · refine ⟨.inl ⟨rfl, _, SqL.of y1⟩, v, z1, q', rs, v, rfl, rfl, y1, Nat.lt_of_lt_of_le y2 (line_le (Nat.le_refl _)), ?_⟩
          exact q σ H0 _ (R.oneOb x1 x3 x5 x6 (.inr rfl) y3) (Sub.refl _)
      | _ => cases e2
/-- x.f op= e -/
theorem xs_faug {op : Operator} {b : Int → Int → Int} {rd : V → V → Hp → VK → Prop} {e : Expr} {f : Eo} (T : GT X.K) (hv : PE X (.Name y py) (tVar i)) (he : XO X e f) (ho : InOp X op rd) (hrd : ∀ (m n : Int) (H : Hp) (Q : VK), Q (.int (b m n)) H → rd (.int m) (.int n) H Q) : XS X (.AugAssign (.Attribute (.Name y py) (gX k) ap) op e pos) (sFAug i k b f) :=
  (ps_fldaug hv he ho).weak fun D σ H ⟨G, H0, δ, o, δ', eK, R, e0, q⟩ => by
    simp only [sFAug] at e0
    split at e0
    · cases e0
    · rename_i hk
      simp only [Option.bind_eq_some_iff] at e0
      obtain ⟨fs, e1, e2⟩ := e0
      cases ef : fs[k]? with
      | none =>
        rw [ef] at e2
        cases e2
      | some d =>
        rw [ef] at e2
        cases d with
        | int a =>
          simp only [Option.bind_eq_some_iff] at e2
          obtain ⟨⟨o1, δ1⟩, e3, e4⟩ := e2
          obtain ⟨s, p, q', x1, x2, x3, x4, x5, x6⟩ := ob_at R e1
          obtain ⟨dx, l, v, y1, y2, y3⟩ := x6.fld hk ef
          cases y3
          refine ⟨.ref p, x5, p, _, dx, l, _, rfl, y1, ?_, ?_, y2, G, H0, δ, o1, δ1, eK, R, e3, fun w A H1 R1 s1 k1 => ?_⟩
          · rw [eK]
            exact T.cls
          · rw [eK]
            exact T.no k
          · cases o1 with
            | «at» _ => cases e4
            | val d =>
              cases d with
              | int c =>
                simp only [Option.bind_eq_some_iff] at e4
                obtain ⟨gs, e5, e6⟩ := e4
                split at e6
                · rename_i hl
                  cases e6
                  cases k1
                  refine hrd a c H1 _ ?_
                  obtain ⟨s', p', q'', z1, z2, z3, z4, z5, z6⟩ := ob_at R1 e5
                  rw [x5] at z5
                  cases z5
                  obtain ⟨dx', l', w1, w2, w3⟩ := z6.setF (v := .int (b a c)) (d := .int (b a c)) hk hl (.int _)
                  exact ⟨dx', l', w1, by rw [w2]; decide, q σ A _ (R1.oneOb z1 z3 x5 z6 (.inl rfl) w3) s1⟩
                · cases e6
              | _ => cases e4
        | _ => cases e2
/-! ### calls -/
section
variable {c : Fnc} {A : Ea} {CX : CXT} {kk : Nat} {fa : Addr} {fd : FuncData} {ps : List Str} {E : XK} {x m : Str} {p : Pos} {e : Expr} {es : List Expr}
theorem methG_ok {G : Gx} {A0 H : Hp} {δ : Env} {σ : L2.St} {pp : Addr} {vs : List V} {ds : List D} {fs gs : List D} {r : Res} {Q : VK} (R : Rl G A0 H δ σ) (hp : σ[i]? = some (some (.ref pp))) (ra : RelAll G.K A0 vs ds) (e1 : obAt δ i = some fs) (e2 : c (some fs) ds = some (r, some gs))
    (q : ∀ v B H', Rl G B H' (obPut δ i gs) σ → Sub A0 B → ResOk G B H' (obPut δ i gs) σ r v → Q v H') : spG G.K c (.ref pp :: vs) H Q E := by
  obtain ⟨s, p, q', x1, x2, x3, x4, x5, x6⟩ := ob_at R e1
  rw [hp] at x5
  cases x5
  refine ⟨A0, ds, r, pp, q', fs, gs, vs, R.sub, rfl, ra, x6, e2, fun v B H' h1 h2 h3 h4 h5 h6 => ?_⟩
  have R2 := R.growOb x1 x3 hp x6 h3 h1 h2 h4 h5
  refine q v B H' R2 h1 ?_
  cases r with
  | dat d => exact h6
  | new es =>
    obtain ⟨z, us, y1, y2, y3, y4, y5⟩ := h6
    have f := R.fresh y5
    refine ⟨z, us, y1, y2, y3, y4, f.2.1, fun j hj => ?_⟩
    obtain ⟨s', ep, hob', how', hpr', hs'⟩ := obPut_get (gs := gs) x1 x3
    rw [ep] at hj
    obtain ⟨u, u1, u2, pj, u3, u4⟩ := hj
    have pnz : pp ≠ z := fun w => by
      obtain ⟨C, dx, l, e⟩ := x6.hp
      rw [w, y5] at e
      cases e
    have qnz : q' ≠ z := fun w => by
      obtain ⟨rs, e⟩ := x6.hq
      rw [w, y5] at e
      cases e
    by_cases hij : i = j
    · subst hij
      rw [hp] at u3
      cases u3
      rcases u4 with u4 | ⟨_, u4⟩
      · exact pnz u4.symm
      · exact qnz (h5.row.inj u4)
    · rw [List.getElem?_set_ne hij] at u1
      refine f.2.2 j ⟨u, u1, u2, pj, u3, ?_⟩
      rcases u4 with u4 | ⟨u4, u5⟩
      · exact .inl u4
      · obtain ⟨qj, fj, obj_, _⟩ := R.ob u1 u4 u3
        have n1 : pj ≠ pp := fun w => by
          subst w
          exact hij (R.inj i j pj (Holds.of x1 x2 hp) (Holds.of u1 u2 u3))
        have n2 : pj ≠ q' := fun w => by
          subst w
          exact hij (R.inj i j pj (Holds.ofRow x1 x2 x3 hp x6.row) (Holds.of u1 u2 u3))
        have r := obj_.row.in (H' := H') fun o eo _ => h3 pj o eo n1 n2
        rw [u5.inj r]
        exact .inr ⟨u4, obj_.row⟩
  | newD t kvs =>
    obtain ⟨z, y1, y2, y4, y5⟩ := h6
    have f := R.fresh y5
    refine ⟨z, y1, y2, y4, f.2.1, fun j hj => ?_⟩
    obtain ⟨s', ep, hob', how', hpr', hs'⟩ := obPut_get (gs := gs) x1 x3
    rw [ep] at hj
    obtain ⟨u, u1, u2, pj, u3, u4⟩ := hj
    have pnz : pp ≠ z := fun w => by
      obtain ⟨C, dx, l, e⟩ := x6.hp
      rw [w, y5] at e
      cases e
    have qnz : q' ≠ z := fun w => by
      obtain ⟨rs, e⟩ := x6.hq
      rw [w, y5] at e
      cases e
    by_cases hij : i = j
    · subst hij
      rw [hp] at u3
      cases u3
      rcases u4 with u4 | ⟨_, u4⟩
      · exact pnz u4.symm
      · exact qnz (h5.row.inj u4)
    · rw [List.getElem?_set_ne hij] at u1
      refine f.2.2 j ⟨u, u1, u2, pj, u3, ?_⟩
      rcases u4 with u4 | ⟨u4, u5⟩
      · exact .inl u4
      · obtain ⟨qj, fj, obj_, _⟩ := R.ob u1 u4 u3
        have n1 : pj ≠ pp := fun w => by
          subst w
          exact hij (R.inj i j pj (Holds.of x1 x2 hp) (Holds.of u1 u2 u3))
        have n2 : pj ≠ q' := fun w => by
          subst w
          exact hij (R.inj i j pj (Holds.ofRow x1 x2 x3 hp x6.row) (Holds.of u1 u2 u3))
        have r := obj_.row.in (H' := H') fun o eo _ => h3 pj o eo n1 n2
        rw [u5.inj r]
        exact .inr ⟨u4, obj_.row⟩
/-- x.m(e, ..) -/
theorem x_meth {pl : Sem Bool} (hT : GT X.K) (hm : Meth X.K (GC X.K) m fa) (hf : gFree m) (F : FnOk X.prog X.w X.K X.mg X.base CX kk fa fd ps (spG X.K c)) (hr : Room kk X.A) (hb : Binds X.K fd ps []) (hx : Passes CX X E) (hv : PE X (.Name y py) (tVar i)) (ha : XA X (e :: es) A)
    (hst : starEach (e :: es) X.env = (false, eval e X.env) :: starEach es X.env := by rfl) (hpl : (backTo pos (starEach es X.env)).any (·.1) = false := by rfl)
    (ht : eval (.Call (.Attribute (.Name y py) m ap) (e :: es) [] pos) X.env = (do
      let ov ← eval (.Name y py) X.env
      standAt ap.atName
      let (f, first) ← holding [ov] (getMethod ov m pl)
      callWith pos f first (backTo pos (starEach (e :: es) X.env)) (backToKw pos (keywordEach [] X.env))) := by rfl) :
    XV X (.Call (.Attribute (.Name y py) m ap) (e :: es) [] pos) (vMeth c i A) :=
  (pe_meth (pl := pl) hv hT.cls hm F hr hb .nil hx ha hst hpl ht).weak fun σ H Q ⟨G, H0, δ, r, δ', eK, R, e0, q⟩ => by
    simp only [vMeth, Option.bind_eq_some_iff] at e0
    obtain ⟨fs0, e1, ⟨os, δ1⟩, e2, ds, e3, fs, e4, ⟨r', out⟩, e5, e6⟩ := e0
    cases out with
    | none => cases e6
    | some gs =>
      cases e6
      obtain ⟨s, p, q', x1, x2, x3, x4, x5, x6⟩ := ob_at R e1
      obtain ⟨dx, v0, v2, v3, v4, v5, rs, d0, dss, d2, d3, d4, d5, h⟩ := x6
      refine ⟨.ref p, x5, p, dx, _, rfl, by rw [← eK]; exact h.hp, gFree_look hf _ _ _ _ _ _, G, H0, δ, os, δ1, eK, R, e2, fun vs A1 H1 R1 s1 k1 => ?_⟩
      show spG X.K c (.ref p :: (vs ++ [])) H1 Q E
      rw [← eK, List.append_nil]
      exact methG_ok R1 x5 (k1.vals e3) e4 e5 fun v B H' R2 s2 k2 => q v B H' R2 (s1.trans s2) k2
/-- x.m() -/
theorem x_meth0 {pl : Sem Bool} (hT : GT X.K) (hm : Meth X.K (GC X.K) m fa) (hf : gFree m) (F : FnOk X.prog X.w X.K X.mg X.base CX kk fa fd ps (spG X.K c)) (hr : Room kk X.A) (hb : Binds X.K fd ps []) (hx : Passes CX X E) (hv : PE X (.Name y py) (tVar i))
    (ht : eval (.Call (.Attribute (.Name y py) m ap) [] [] pos) X.env = (do
      let ov ← eval (.Name y py) X.env
      standAt ap.atName
      let (f, first) ← holding [ov] (getMethod ov m pl)
      callWith pos f first (backTo pos (starEach [] X.env)) (backToKw pos (keywordEach [] X.env))) := by rfl) :
    XV X (.Call (.Attribute (.Name y py) m ap) [] [] pos) (vMeth c i aNil) :=
  (pe_meth0 (pl := pl) hv hT.cls hm F hr hb .nil hx ht).weak fun σ H Q ⟨G, H0, δ, r, δ', eK, R, e0, q⟩ => by
    simp only [vMeth, Option.bind_eq_some_iff] at e0
    obtain ⟨fs0, e1, ⟨os, δ1⟩, e2, ds, e3, fs, e4, ⟨r', out⟩, e5, e6⟩ := e0
    cases e2
    cases e3
    cases out with
    | none => cases e6
    | some gs =>
      cases e6
      obtain ⟨s, p, q', x1, x2, x3, x4, x5, x6⟩ := ob_at R e1
      obtain ⟨dx, v0, v2, v3, v4, v5, rs, d0, dss, d2, d3, d4, d5, h⟩ := x6
      refine ⟨.ref p, x5, p, dx, _, rfl, by rw [← eK]; exact h.hp, gFree_look hf _ _ _ _ _ _, ?_⟩
      show spG X.K c (.ref p :: ([] ++ [])) H Q E
      rw [← eK, List.append_nil]
      exact methG_ok R x5 .nil e4 e5 fun v B H' R2 s2 k2 => q v B H' R2 s2 k2
/-- f(x, e, ..) -/
theorem x_callG (F : FnOk X.prog X.w X.K X.mg X.base CX kk fa fd ps (spG X.K c)) (hr : Room kk X.A) (hg : Gl X x) (hm : X.mg x = some (.ref fa)) (hk : PySem.W.keepIn X.K (.ref fa) = true) (hb : Binds X.K fd ps []) (hx : Passes CX X E)
    (hv : PE X (.Name y py) (tVar i)) (ha : XA X es A) (hs : starEach (.Name y py :: es) X.env = (false, eval (.Name y py) X.env) :: starEach es X.env := by rfl) (hdb : (x == ("__debug__" : Str)) = false := by decide) (hpl : (backTo pos (starEach es X.env)).any (·.1) = false := by rfl) :
    XV X (.Call (.Name x p) (.Name y py :: es) [] pos) (vMeth c i A) := (pe_call F hr hg hm hk hb .nil hx (pa_cons hv ha hs) hdb hs hpl).weak fun σ H Q ⟨G, H0, δ, r, δ', eK, R, e0, q⟩ => by
    simp only [vMeth, Option.bind_eq_some_iff] at e0
    obtain ⟨fs0, e1, ⟨os, δ1⟩, e2, ds, e3, fs, e4, ⟨r', out⟩, e5, e6⟩ := e0
    cases out with
    | none => cases e6
    | some gs =>
      cases e6
      obtain ⟨s, p, q', x1, x2, x3, x4, x5, x6⟩ := ob_at R e1
      refine ⟨.ref p, x5, G, H0, δ, os, δ1, eK, R, e2, fun vs A1 H1 R1 s1 k1 => ?_⟩
      show spG X.K c (.ref p :: vs ++ []) H1 Q E
      rw [← eK, List.append_nil]
      exact methG_ok R1 x5 (k1.vals e3) e4 e5 fun v B H' R2 s2 k2 => q v B H' R2 (s1.trans s2) k2
/-- the reading of a call that gives a new object -/
def kN (K : PySem.W.Frag) (c : Fnc) (A : Ea) : TE := fun σ H Q => ∃ G H0 δ os δ1 ds r fs, G.K = K ∧ Rl G H0 H δ σ ∧ A δ = some (os, δ1) ∧ vals os = some ds ∧ c none ds = some (r, some fs) ∧
  ∀ p q H0' H', Rl G H0' H' δ1 σ → Sub H0 H0' → ObAt K H0' H' p q fs → G.H p = none → G.H q = none → (∀ i, ¬ Holds H' δ1 σ i p) → (∀ i, ¬ Holds H' δ1 σ i q) → Q (.ref p) H'
theorem callN_ok {G : Gx} {H0 H : Hp} {δ1 : Env} {σ : L2.St} {vs : List V} {ds : List D} {r : Res} {fs : List D} {Q : VK} {E : XK} (R : Rl G H0 H δ1 σ) (ra : RelAll G.K H0 vs ds) (e : c none ds = some (r, some fs))
    (q : ∀ p q H0' H', Rl G H0' H' δ1 σ → Sub H0 H0' → ObAt G.K H0' H' p q fs → G.H p = none → G.H q = none → (∀ i, ¬ Holds H' δ1 σ i p) → (∀ i, ¬ Holds H' δ1 σ i q) → Q (.ref p) H') : spN G.K c vs H Q E :=
  ⟨H0, ds, r, fs, R.sub, ra, e, fun p q' B H' h1 h2 h3 h4 h5 h6 h7 => by
    have f := R.fresh h6
    have f' := R.fresh h7
    exact q p q' B H' (R.grow h3 h1 h2 h4) h1 h5 f.2.1 f'.2.1 (fun i h => f.2.2 i (R.holdsOf (keep_sub h3) h)) (fun i h => f'.2.2 i (R.holdsOf (keep_sub h3) h))⟩
theorem x_callN (F : FnOk X.prog X.w X.K X.mg X.base CX kk fa fd ps (spN X.K c)) (hr : Room kk X.A) (hg : Gl X x) (hm : X.mg x = some (.ref fa)) (hk : PySem.W.keepIn X.K (.ref fa) = true) (hb : Binds X.K fd ps []) (hx : Passes CX X E)
    (ha : XA X (e :: es) A) (hdb : (x == ("__debug__" : Str)) = false := by decide) (he : starEach (e :: es) X.env = (false, eval e X.env) :: starEach es X.env := by rfl) (hpl : (backTo pos (starEach es X.env)).any (·.1) = false := by rfl) :
    PE X (.Call (.Name x p) (e :: es) [] pos) (kN X.K c A) := (pe_call F hr hg hm hk hb .nil hx ha hdb he hpl).weak fun σ H Q ⟨G, H0, δ, os, δ1, ds, r, fs, eK, R, e1, e2, e3, q⟩ => by
  refine ⟨G, H0, δ, os, δ1, eK, R, e1, fun vs A1 H1 R1 s1 k1 => ?_⟩
  show spN X.K c (vs ++ []) H1 Q E
  rw [← eK, List.append_nil]
  exact callN_ok R1 (k1.vals e2) e3 fun p q' B H' R2 s2 ob g1 g2 n1 n2 => q p q' B H' R2 (s1.trans s2) (eK ▸ ob) g1 g2 n1 n2
/-- Growth(e) -/
theorem x_mkN {fI : Addr} (hG : c = (fun _ _ => none) ∨ (Room 2 X.A ∧ c = newG)) (M : Mk X.K (GC X.K) fI) (F : FnOk X.prog X.w X.K X.mg X.base CX 1 fI fd ps (spInit X.K)) (hg : Gl X x) (hm : X.mg x = some (.ref (GC X.K))) (hb : Binds X.K fd ps []) (hx : Passes CX X E)
    (ha : XA X [e] A) (hdb : (x == ("__debug__" : Str)) = false := by decide) (he : starEach [e] X.env = (false, eval e X.env) :: starEach [] X.env := by rfl) (hpl : (backTo pos (starEach [] X.env)).any (·.1) = false := by rfl) :
    PE X (.Call (.Name x p) [e] [] pos) (kN X.K c A) := by
  rcases hG with hG | ⟨hr, hG⟩
  · refine ⟨fun pins s σ H Q I ⟨G, H0, δ, os, δ1, ds, r, fs, eK, R, e1, e2, e3, q⟩ => ?_⟩
    rw [hG] at e3
    cases e3
  · refine (pe_make M F hr hg hm hb .nil hx ha hdb he hpl).weak fun σ H Q ⟨G, H0, δ, os, δ1, ds, r, fs, eK, R, e1, e2, e3, q⟩ => ?_
    refine ⟨G, H0, δ, os, δ1, eK, R, e1, fun vs A1 H1 R1 s1 k1 => ?_⟩
    have ra := k1.vals e2
    rw [hG] at e3
    cases ds with
    | nil => cases e3
    | cons d ds =>
      cases ds with
      | cons _ _ => cases e3
      | nil =>
        cases e3
        cases ra with
        | cons rv rn =>
          cases rn
          intro xx dx hxx hdx hne
          refine ⟨xx, dx, _, rfl, upd_same, fun q' l o H' n1 n2 n3 d1 d2 d3 e1 e2 e3 e4 keep => ⟨rfl, ?_⟩⟩
          have low : ∀ {a : Addr}, upd (upd H1 dx (.own xx)) xx (.ins (GC X.K) dx []) a = none → H1 a = none ∧ a ≠ xx := fun {a} h => by
            have ha : a ≠ xx := fun z => by
              rw [z, upd_same] at h
              cases h
            rw [upd_ne ha] at h
            have hb : a ≠ dx := fun z => by
              rw [z, upd_same] at h
              cases h
            rw [upd_ne hb] at h
            exact ⟨h, ha⟩
          have m1 := low n1
          have m2 := low n2
          have m3 := low n3
          have hH : Sub H1 H' := fun a u e => keep a u (by
            rw [upd_ne (ne_of_none e hxx), upd_ne (ne_of_none e hdx)]
            exact e) (ne_of_none e hxx)
          have a2 := (R1.fresh m2.1).1
          have a3 := (R1.fresh m3.1).1
          let B : Hp := upd (upd A1 l (.lst [.int 1])) o (.lst [.int 1])
          have hB : Sub A1 B := fun a u e => by
            show upd (upd A1 l (.lst [.int 1])) o (.lst [.int 1]) a = some u
            rw [upd_ne (ne_of_none e a3), upd_ne (ne_of_none e a2)]
            exact e
          have hBH : Sub B H' := fun a u e => by
            have e' : upd (upd A1 l (.lst [.int 1])) o (.lst [.int 1]) a = some u := e
            by_cases h1 : a = o
            · subst h1
              rw [upd_same] at e'
              cases e'
              exact e4
            · rw [upd_ne h1] at e'
              by_cases h2 : a = l
              · subst h2
                rw [upd_same] at e'
                cases e'
                exact e3
              · rw [upd_ne h2] at e'
                exact hH a u (R1.sub a u e')
          have hF : Fro A1 H1 B := fun a u e => by
            have e' : upd (upd A1 l (.lst [.int 1])) o (.lst [.int 1]) a = some u := e
            by_cases h1 : a = o
            · rw [h1]
              exact .inr m3.1
            · rw [upd_ne h1] at e'
              by_cases h2 : a = l
              · rw [h2]
                exact .inr m2.1
              · rw [upd_ne h2] at e'
                exact .inl ⟨u, e'⟩
          have R2 := R1.grow hH hB hBH hF
          have bo : B o = some (.lst [.int 1]) := upd_same
          have bl : B l = some (.lst [.int 1]) := by
            show upd (upd A1 l (.lst [.int 1])) o (.lst [.int 1]) l = _
            rw [upd_ne d3, upd_same]
          have np : B xx = none := by
            show upd (upd A1 l (.lst [.int 1])) o (.lst [.int 1]) xx = none
            rw [upd_ne (Ne.symm m3.2), upd_ne (Ne.symm m2.2)]
            exact R1.sub.none hxx
          have nq : B q' = none := by
            show upd (upd A1 l (.lst [.int 1])) o (.lst [.int 1]) q' = none
            rw [upd_ne d2, upd_ne d1]
            exact R1.sub.none m1.1
          have f := R1.fresh hxx
          have f' := R1.fresh m1.1
          refine q xx q' B H' R2 (s1.trans hB) ⟨dx, _, _, _, _, _, [], _, [], _, _, _, _, rfl, e1, e2, .nil, ?_, .int 0, .lst bl (.cons (.int 1) .nil), .lst bo (.cons (.int 1) .nil), .int 1, np, nq⟩ f.2.1 f'.2.1 (fun i h => f.2.2 i (R1.holdsOf (keep_sub hH) h)) (fun i h => f'.2.2 i (R1.holdsOf (keep_sub hH) h))
          rw [← eK]
          exact rv.sub hB
/-- x = f(e, ..) -/
theorem xs_callN {y : Str} {pos' : Pos} {e0 : Expr} (hN : X.N.Nodup) (hi : X.N[i]? = some y) (hx : Loc X.env.scope y) (h : PE X e0 (kN X.K c A)) (hs : swapsWith e0 (some (.Name y pos')) pos.line X.env = pure false := by rfl)
    (hf : X.fn y = true ∨ X.env.scope.names.lookup y = some .local := by first | exact .inl rfl | exact .inr rfl | assumption) : XS X (.Assign [.Name y pos'] e0 pos) (sCallN i c A) :=
  (ps_set hN hi hx h hs hf).weak fun D σ H ⟨G, H0, δ, o, δ', eK, R, e, q⟩ => by
    simp only [sCallN, Option.bind_eq_some_iff] at e
    obtain ⟨⟨os, δ1⟩, e1, ds, e2, ⟨r, out⟩, e3, e4⟩ := e
    cases out with
    | none => cases e4
    | some fs =>
      simp only [Option.map_eq_some_iff] at e4
      obtain ⟨δ2, e5, e6⟩ := e4
      cases e6
      refine ⟨G, H0, δ, os, δ1, ds, r, fs, eK, R, e1, e2, e3, fun p q' A1 H' R1 s1 ob g1 g2 n1 n2 => ?_⟩
      have hlt := setSlot_lt e5
      rw [← R1.len] at hlt
      refine q _ A1 H' (Rl.set R1 e5 ⟨p, q', List.getElem?_set_self hlt, eK ▸ ob, g1, g2⟩ rfl (fun _ a ha j => ?_)) s1
      obtain ⟨p', y1, y2⟩ := ha
      rw [List.getElem?_set_self hlt] at y1
      cases y1
      rcases y2 with rfl | ⟨_, y2⟩
      · exact n1 j
      · rw [y2.inj ob.row]
        exact n2 j
/-- f(e, ..).f -/
theorem x_callNFld {e0 : Expr} (T : GT X.K) (h : PE X e0 (kN X.K c A)) (hb : attributeBase e0 (gX k) X.env (eval e0 X.env) = eval e0 X.env := by rfl) : XV X (.Attribute e0 (gX k) pos) (vCallNFld c A k) :=
  (pe_fld h hb).weak fun σ H Q ⟨G, H0, δ, r, δ', eK, R, e, q⟩ => by
    simp only [vCallNFld] at e
    split at e
    · cases e
    · rename_i hk
      simp only [Option.bind_eq_some_iff] at e
      obtain ⟨⟨os, δ1⟩, e1, ds, e2, ⟨r, out⟩, e3, e4⟩ := e
      cases out with
      | none => cases e4
      | some fs =>
        simp only [Option.map_eq_some_iff] at e4
        obtain ⟨d, e5, e6⟩ := e4
        cases e6
        refine ⟨G, H0, δ, os, _, ds, r, fs, eK, R, e1, e2, e3, fun p q' A1 H' R1 s1 ob g1 g2 n1 n2 => ?_⟩
        obtain ⟨dx, l, v, y1, y2, y3⟩ := ob.fld hk e5
        exact ⟨p, _, dx, l, v, rfl, y1, T.cls, T.no k, y2, q v _ _ R1 s1 (show Rel G.K A1 v d by rw [eK]; exact y3)⟩
/-- f(e, ..).m() -/
theorem x_callNMeth {pl : Sem Bool} {e0 : Expr} {mc : Fnc} (hT : GT X.K) (hm : Meth X.K (GC X.K) m fa) (hf : gFree m) (F : FnOk X.prog X.w X.K X.mg X.base CX kk fa fd ps (spG X.K mc)) (hr : Room kk X.A) (hb : Binds X.K fd ps []) (hx : Passes CX X E) (h : PE X e0 (kN X.K c A))
    (ht : eval (.Call (.Attribute e0 m ap) [] [] pos) X.env = (do
      let ov ← eval e0 X.env
      standAt ap.atName
      let (f, first) ← holding [ov] (getMethod ov m pl)
      callWith pos f first (backTo pos (starEach [] X.env)) (backToKw pos (keywordEach [] X.env))) := by rfl) :
    XV X (.Call (.Attribute e0 m ap) [] [] pos) (vCallNMeth c A mc) :=
  (pe_meth0 (pl := pl) h hT.cls hm F hr hb .nil hx ht).weak fun σ H Q ⟨G, H0, δ, r, δ', eK, R, e, q⟩ => by
    simp only [vCallNMeth, Option.bind_eq_some_iff] at e
    obtain ⟨⟨os, δ1⟩, e1, ds, e2, ⟨r1, out⟩, e3, e4⟩ := e
    cases out with
    | none => cases e4
    | some fs =>
      simp only [Option.bind_eq_some_iff] at e4
      obtain ⟨⟨r2, out2⟩, e5, e6⟩ := e4
      cases out2 with
      | none => cases e6
      | some gs =>
        cases e6
        refine ⟨G, H0, δ, os, _, ds, r1, fs, eK, R, e1, e2, e3, fun p q' A1 H' R1 s1 ob g1 g2 n1 n2 => ?_⟩
        obtain ⟨dx, v0, v2, v3, v4, v5, rs, d0, dss, d2, d3, d4, d5, hh⟩ := id ob
        refine ⟨p, dx, _, rfl, hh.hp, gFree_look hf _ _ _ _ _ _, ?_⟩
        show spG X.K mc (.ref p :: ([] ++ [])) H' Q E
        rw [List.append_nil]
        refine ⟨A1, [], r2, p, q', fs, gs, [], R1.sub, rfl, .nil, ob, e5, fun v B H'' h1 h2 h3 h4 h5 h6 => ?_⟩
        -- the object is left behind
        have kl : ∀ a o, Holds H' δ' σ o a → a ≠ p ∧ a ≠ q' := fun a o ho => ⟨fun z => n1 o (z ▸ ho), fun z => n2 o (z ▸ ho)⟩
        have R2 : Rl G B H'' δ' σ := by
          have nf : ∀ a u, H' a = some u → A1 a = none → B a = none := fun a u e n => by
            cases z : B a with
            | none => rfl
            | some w =>
              rcases h4 a w z with ⟨w', hw⟩ | hw
              · rw [n] at hw
                cases hw
              · rw [e] at hw
                cases hw
          have back : ∀ i a, Holds H'' δ' σ i a → Holds H' δ' σ i a := fun i a ⟨s, u1, u2, pj, u3, u4⟩ => by
            refine ⟨s, u1, u2, pj, u3, ?_⟩
            rcases u4 with u4 | ⟨u4, u5⟩
            · exact .inl u4
            · obtain ⟨qj, fj, obj_, _⟩ := R1.ob u1 u4 u3
              have nn := kl pj i (Holds.of u1 u2 u3)
              have r := obj_.row.in (H' := H'') fun o eo _ => h3 pj o eo nn.1 nn.2
              rw [u5.inj r]
              exact .inr ⟨u4, obj_.row⟩
          refine ⟨R1.len, h2, R1.up.trans h1, fun a u e x1 x2 => ?_, fun a u e => ?_, fun i s e => ?_, fun i j a x1 x2 => R1.inj i j a (back _ _ x1) (back _ _ x2), R1.prs, fun w hw => ?_, tabs_te (tabs_fro R1.tabs fun a o e => (h4 a o e).imp id .inl) fun a o e t => h3 a o e (fun z => by subst z; obtain ⟨C, dx, l, y⟩ := ob.hp; rw [y] at e; cases e; exact t) (fun z => by subst z; obtain ⟨rs, y⟩ := ob.hq; rw [y] at e; cases e; exact t)⟩
          · refine h3 a u (R1.keep a u e x1 x2) (fun z => ?_) (fun z => ?_)
            · rw [z, g1] at e
              cases e
            · rw [z, g2] at e
              cases e
          · rcases h4 a u e with ⟨w, hw⟩ | hw
            · exact R1.fro a w hw
            · exact .inr (R1.fresh hw).2.1
          · refine (R1.slot i s e).mono h1 (fun a u e' x1 x2 => ?_) (fun a x1 x2 n => ?_)
            · have nn := kl a i ⟨s, e, x1, x2⟩
              exact h3 a u e' nn.1 nn.2
            · obtain ⟨⟨u, eu⟩, _⟩ := R1.held ⟨s, e, x1, x2⟩
              exact nf a u eu n
          · obtain ⟨j, fj, pj, z1, z2, z3⟩ := R1.qrs w hw
            have nn := kl pj j (Holds.of z1 rfl z2)
            exact ⟨j, fj, pj, z1, z2, z3.in fun o eo _ => h3 pj o eo nn.1 nn.2⟩
        refine q v B H'' R2 (s1.trans h1) ?_
        cases r2 with
        | dat d =>
          show Rel G.K B v d
          rw [eK]
          exact h6
        | new es =>
          obtain ⟨z, us, y1, y2, y3, y4, y5⟩ := h6
          have f := R1.fresh y5
          refine ⟨z, us, y1, y2, by rw [eK]; exact y3, y4, f.2.1, fun i hi => ?_⟩
          obtain ⟨⟨u, eu⟩, _⟩ := R2.held hi
          obtain ⟨s, u1, u2, pj, u3, u4⟩ := hi
          refine f.2.2 i ⟨s, u1, u2, pj, u3, ?_⟩
          rcases u4 with u4 | ⟨u4, u5⟩
          · exact .inl u4
          · obtain ⟨qj, fj, obj_, _⟩ := R1.ob u1 u4 u3
            have nn := kl pj i (Holds.of u1 u2 u3)
            have r := obj_.row.in (H' := H'') fun o eo _ => h3 pj o eo nn.1 nn.2
            rw [u5.inj r]
            exact .inr ⟨u4, obj_.row⟩
        | newD t kvs =>
          obtain ⟨z, y1, y2, y4, y5⟩ := h6
          have f := R1.fresh y5
          refine ⟨z, y1, by rw [eK]; exact y2, y4, f.2.1, fun i hi => ?_⟩
          obtain ⟨⟨u, eu⟩, _⟩ := R2.held hi
          obtain ⟨s, u1, u2, pj, u3, u4⟩ := hi
          refine f.2.2 i ⟨s, u1, u2, pj, u3, ?_⟩
          rcases u4 with u4 | ⟨u4, u5⟩
          · exact .inl u4
          · obtain ⟨qj, fj, obj_, _⟩ := R1.ob u1 u4 u3
            have nn := kl pj i (Holds.of u1 u2 u3)
            have r := obj_.row.in (H' := H'') fun o eo _ => h3 pj o eo nn.1 nn.2
            rw [u5.inj r]
            exact .inr ⟨u4, obj_.row⟩
end
/-- return x -/
theorem xs_retG {e : Expr} (hv : PE X e (tVar i)) : XS X (.Return (some e) pos) (sRetG i) := (ps_ret hv).weak fun D σ H ⟨G, H0, δ, o, δ', eK, R, e, q⟩ => by
  unfold sRetG at e
  cases es : δ[i]? with
  | none =>
    rw [es] at e
    cases e
  | some s =>
    rw [es] at e
    have sj := R.slot i s es
    cases s with
    | obj fs =>
      cases e
      obtain ⟨p, q', e1, _⟩ := sj
      exact ⟨_, e1, q σ H0 H R (Sub.refl _) _ e1⟩
    | _ => cases e
end
end IP
end
section
set_option Elab.async false
set_option linter.all false
set_option maxRecDepth 100000
set_option maxHeartbeats 2000000
namespace IP
open PySem L2
section
variable {K : PySem.W.Frag}
theorem start_at {N : List Str} {vs : List V} {i : Nat} {v : V} (e : vs[i]? = some v) : (L2.start N vs)[i]? = some (some v) := by
  unfold L2.start
  have hl : i < vs.length := (List.getElem?_eq_some_iff.mp e).1
  rw [List.getElem?_append_left (by rw [List.length_map]; exact hl), List.getElem?_map, e]
  rfl
theorem dat_at {ds : List D} {m : Nat} {i : Nat} {s : Slot} (e : (ds.map Slot.dat ++ List.replicate m .un)[i]? = some s) : s = .un ∨ ∃ d, s = .dat d ∧ ds[i]? = some d := by
  by_cases hi : i < ds.length
  · rw [List.getElem?_append_left (by rw [List.length_map]; exact hi), List.getElem?_map] at e
    simp only [Option.map_eq_some_iff] at e
    obtain ⟨d, h1, h2⟩ := e
    exact .inr ⟨d, h2.symm, h1⟩
  · rw [List.getElem?_append_right (by rw [List.length_map]; omega)] at e
    exact .inl (List.eq_of_mem_replicate (List.mem_of_getElem? e))
theorem fnG_read {F : Fn} {N : List Str} {vs : List V} {H : Hp} {Q : VK} {E : XK} (hN : N.length = F.names) (hle : F.nps ≤ F.names) (h : spG K F.runG vs H Q E) : kS K F.body { nx := fun _ H' => Q .non H', rt := Q } (L2.start N vs) H := by
  obtain ⟨H0, ds, r, p, q, fs, gs, ws, s0, rfl, ra, ob, e, k⟩ := h
  simp only [Fn.runG, Fn.start, Option.bind_eq_some_iff] at e
  obtain ⟨δ0, e0, ⟨o, δ1⟩, e1, e2⟩ := e
  split at e0
  · rename_i hlen
    cases e0
    let G : Gx := ⟨K, H, H0, [(0, p)], [q], []⟩
    have hvl : ws.length = ds.length := ra.length
    have R : Rl G H0 H (Slot.pob fs :: (ds.map Slot.dat ++ List.replicate (F.names - F.nps) .un)) (L2.start N (.ref p :: ws)) := by
      have zero : ∀ {i : Nat} {a : Addr}, Holds H (Slot.pob fs :: (ds.map Slot.dat ++ List.replicate (F.names - F.nps) .un)) (L2.start N (.ref p :: ws)) i a → i = 0 := fun {i a} ⟨s, h1, h2, _⟩ => by
        cases i with
        | zero => rfl
        | succ i =>
          rw [List.getElem?_cons_succ] at h1
          rcases dat_at h1 with rfl | ⟨d, rfl, _⟩ <;> cases h2
      refine ⟨?_, s0, Sub.refl _, fun a o e _ _ => e, fun a o e => .inl ⟨o, e⟩, fun i s es => ?_, fun i j p' hi hj => (zero hi).trans (zero hj).symm, fun z hz => ?_, fun w hw => ?_, tabs_no rfl⟩
      · unfold L2.start
        simp only [List.length_append, List.length_cons, List.length_map, List.length_replicate]
        omega
      · cases i with
        | zero =>
          cases es
          exact ⟨p, q, start_at rfl, List.mem_singleton.mpr rfl, List.mem_singleton.mpr rfl, ob⟩
        | succ i =>
          rw [List.getElem?_cons_succ] at es
          rcases dat_at es with rfl | ⟨d, rfl, h1⟩
          · trivial
          · obtain ⟨v, h2, h3⟩ := ra.get h1
            exact ⟨v, start_at (by rw [List.getElem?_cons_succ]; exact h2), h3⟩
      · obtain rfl := List.mem_singleton.mp hz
        exact ⟨.pob fs, rfl, rfl, start_at rfl⟩
      · obtain rfl := List.mem_singleton.mp hw
        exact ⟨0, fs, p, rfl, start_at rfl, ob.row⟩
    refine ⟨G, H0, _, o, δ1, rfl, R, e1, fun τ A H1 R1 s1 => ?_⟩
    have fin : ∀ gs', δ1[0]? = some (.pob gs') → ∀ v, gs' = gs → RetOk K H A H1 r v → Q v H1 := fun gs' eg v hg kr => by
      subst hg
      obtain ⟨p', q', z1, z2, z3, z4⟩ := R1.slot 0 _ eg
      obtain ⟨s, y1, y2, y3⟩ := R1.prs (0, p) (List.mem_singleton.mpr rfl)
      rw [y3] at z1
      cases z1
      obtain rfl := List.mem_singleton.mp z3
      refine k v A H1 s1 R1.sub (fun a o e ha hq => R1.keep a o e (fun z hz => ?_) (fun hz => hq (List.mem_singleton.mp hz))) R1.fro z4 kr
      obtain rfl := List.mem_singleton.mp hz
      exact fun h => ha h.symm
    dsimp only at e2
    split at e2
    · rename_i gs' eg
      cases e2
      exact fin _ eg _ rfl .non
    · rename_i r' gs' eg
      cases e2
      intro v kr
      refine fin _ eg v rfl ?_
      cases r with
      | dat d => exact kr
      | new es =>
        obtain ⟨z, us, y1, y2, y3, y4, y5, _⟩ := kr
        exact ⟨z, us, y1, y2, y3, y4, y5⟩
      | newD t kvs =>
        obtain ⟨z, y1, y2, y4, y5, _⟩ := kr
        exact ⟨z, y1, y2, y4, y5⟩
    · cases e2
  · cases e0
theorem spG_len {F : Fn} {ps : List Str} (hl : ps.length = F.nps) {vs : List V} {H : Hp} {Q : VK} {E : XK} (h : spG K F.runG vs H Q E) : vs.length = ps.length := by
  obtain ⟨H0, ds, r, p, q, fs, gs, ws, s0, rfl, ra, ob, e, k⟩ := h
  simp only [Fn.runG, Fn.start, Option.bind_eq_some_iff] at e
  obtain ⟨δ0, e0, _⟩ := e
  split at e0
  · rename_i hlen
    rw [hl, List.length_cons, ra.length, hlen]
  · cases e0
theorem fnN_read {F : Fn} {N : List Str} {vs : List V} {H : Hp} {Q : VK} {E : XK} (hN : N.length = F.names) (hle : F.nps ≤ F.names) (h : spN K F.runN vs H Q E) : kS K F.body { nx := fun _ H' => Q .non H', rt := Q } (L2.start N vs) H := by
  obtain ⟨H0, ds, r, fs, s0, ra, e, k⟩ := h
  simp only [Fn.runN, Fn.start, Option.bind_eq_some_iff] at e
  obtain ⟨δ0, e0, ⟨o, δ1⟩, e1, e2⟩ := e
  split at e0
  · rename_i hlen
    cases e0
    let G : Gx := ⟨K, H, H0, [], [], []⟩
    have hvl : vs.length = ds.length := ra.length
    have R : Rl G H0 H (ds.map Slot.dat ++ List.replicate (F.names - F.nps) .un) (L2.start N vs) := by
      refine ⟨?_, s0, Sub.refl _, fun a o e _ _ => e, fun a o e => .inl ⟨o, e⟩, fun i s es => ?_, fun i j p' hi hj => ?_, (fun z hz => nomatch hz), (fun z hz => nomatch hz), tabs_no rfl⟩
      · unfold L2.start
        simp only [List.length_append, List.length_map, List.length_replicate]
        omega
      · rcases dat_at es with rfl | ⟨d, rfl, h1⟩
        · trivial
        · obtain ⟨v, h2, h3⟩ := ra.get h1
          exact ⟨v, start_at h2, h3⟩
      · obtain ⟨s, h1, h2, _⟩ := hi
        rcases dat_at h1 with rfl | ⟨d, rfl, _⟩ <;> cases h2
    refine ⟨G, H0, _, o, δ1, rfl, R, e1, fun τ A H1 R1 s1 => ?_⟩
    cases o with
    | ro i =>
      intro v hv
      dsimp only at e2
      cases es : δ1[i]? with
      | none =>
        rw [es] at e2
        cases e2
      | some s =>
        rw [es] at e2
        have sj := R1.slot i s es
        cases s with
        | obj gs =>
          cases e2
          obtain ⟨p, q, z1, z2, z3, z4⟩ := sj
          rw [hv] at z1
          cases z1
          exact k p q A H1 s1 R1.sub (fun a o e => R1.keep a o e (fun z hz => nomatch hz) (fun z => nomatch z)) R1.fro z2 z3 z4
        | _ => cases e2
    | _ => cases e2
  · cases e0
theorem spN_len {F : Fn} {ps : List Str} (hl : ps.length = F.nps) {vs : List V} {H : Hp} {Q : VK} {E : XK} (h : spN K F.runN vs H Q E) : vs.length = ps.length := by
  obtain ⟨H0, ds, r, fs, s0, ra, e, k⟩ := h
  simp only [Fn.runN, Fn.start, Option.bind_eq_some_iff] at e
  obtain ⟨δ0, e0, _⟩ := e
  split at e0
  · rename_i hlen
    rw [hl, ra.length, hlen]
  · cases e0
end
section
variable {P : Program} {w : World} {K : PySem.W.Frag} {mg : Str → Option Value} {base : Heap}
theorem gX_ne {a b : Nat} (ha : a < 6) (hb : b < 6) (h : a ≠ b) : ¬ gX a = gX b := by
  have : ∀ a b : Fin 6, a ≠ b → ¬ gX a = gX b := by decide +kernel
  exact this ⟨a, ha⟩ ⟨b, hb⟩ (fun z => h (by simpa using z))
end
end IP
end
section
set_option Elab.async false
set_option linter.all false
set_option maxRecDepth 100000
set_option maxHeartbeats 2000000
namespace IP
open PySem L2
def pF1 (v : V) : List (Str × V) := [("prime", v)]
def pF2 (v : V) (q : Addr) : List (Str × V) := [("prime", v), ("row", .ref q)]
def pF3 (v : V) (q : Addr) : List (Str × V) := [("prime", v), ("row", .ref q), ("length", .int 0)]
def pF4 (v : V) (q l : Addr) : List (Str × V) := [("prime", v), ("row", .ref q), ("length", .int 0), ("low", .ref l)]
def pF5 (v : V) (q l o : Addr) : List (Str × V) := [("prime", v), ("row", .ref q), ("length", .int 0), ("low", .ref l), ("older", .ref o)]
theorem put1 (v : V) : putF "prime" v [] = pF1 v := rfl
theorem put2 (v : V) (q : Addr) : putF "row" (.ref q) (pF1 v) = pF2 v q := by
  have h : ¬ (("prime" : Str) = "row") := by decide +kernel
  simp [pF1, pF2, putF, h]
theorem put3 (v : V) (q : Addr) : putF "length" (.int 0) (pF2 v q) = pF3 v q := by
  have h : ¬ (("prime" : Str) = "length") := by decide +kernel
  have h1 : ¬ (("row" : Str) = "length") := by decide +kernel
  simp [pF2, pF3, putF, h, h1]
theorem put4 (v : V) (q l : Addr) : putF "low" (.ref l) (pF3 v q) = pF4 v q l := by
  have h : ¬ (("prime" : Str) = "low") := by decide +kernel
  have h1 : ¬ (("row" : Str) = "low") := by decide +kernel
  have h2 : ¬ (("length" : Str) = "low") := by decide +kernel
  simp [pF3, pF4, putF, h, h1, h2]
theorem put5 (v : V) (q l o : Addr) : putF "older" (.ref o) (pF4 v q l) = pF5 v q l o := by
  have h : ¬ (("prime" : Str) = "older") := by decide +kernel
  have h1 : ¬ (("row" : Str) = "older") := by decide +kernel
  have h2 : ¬ (("length" : Str) = "older") := by decide +kernel
  have h3 : ¬ (("low" : Str) = "older") := by decide +kernel
  simp [pF4, pF5, putF, h, h1, h2, h3]
theorem put6 (v : V) (q l o : Addr) : putF "shift" (.int 1) (pF5 v q l o) = gFs v q (.int 0) (.ref l) (.ref o) (.int 1) := by
  have h : ¬ (("prime" : Str) = "shift") := by decide +kernel
  have h1 : ¬ (("row" : Str) = "shift") := by decide +kernel
  have h2 : ¬ (("length" : Str) = "shift") := by decide +kernel
  have h3 : ¬ (("low" : Str) = "shift") := by decide +kernel
  have h4 : ¬ (("older" : Str) = "shift") := by decide +kernel
  simp [pF5, gFs, putF, h, h1, h2, h3, h4]
/-- what __init__'s six stores read -/
def tInit (K : PySem.W.Frag) : TS := fun D σ H =>
  L2.sFld K (tVar 0) (tVar 1) "prime" { D with nx := (fun σ H =>
    L2.sFld K (tVar 0) (tLst tNil) "row" { D with nx := (fun σ H =>
      L2.sFld K (tVar 0) (tC (.int 0)) "length" { D with nx := (fun σ H =>
        L2.sFld K (tVar 0) (tLst (tCons (tC (.int 1)) tNil)) "low" { D with nx := (fun σ H =>
          L2.sFld K (tVar 0) (tLst (tCons (tC (.int 1)) tNil)) "older" { D with nx := (fun σ H =>
            L2.sFld K (tVar 0) (tC (.int 1)) "shift" D σ H) } σ H) } σ H) } σ H) } σ H) } σ H
theorem init_read {K : PySem.W.Frag} {D : Ends} {σ : L2.St} {H : Hp} {p dx : Addr} {v : V} (cl : Cls K (GC K)) (no : ∀ k, NoAttr K (GC K) (gX k)) (h0 : σ[0]? = some (some (V.ref p))) (h1 : σ[1]? = some (some v)) (hp : H p = some (.ins (GC K) dx []))
    (k : ∀ q l o H', H q = none → H l = none → H o = none → q ≠ l → q ≠ o → l ≠ o → H' p = some (.ins (GC K) dx (gFs v q (.int 0) (.ref l) (.ref o) (.int 1))) → H' q = some (.lst []) → H' l = some (.lst [.int 1]) → H' o = some (.lst [.int 1]) →
    (∀ a u, H a = some u → a ≠ p → H' a = some u) → D.nx σ H') : tInit K D σ H := by
  refine ⟨v, h1, .ref p, h0, p, GC K, dx, [], rfl, hp, cl, no 0, by decide, ?_⟩
  rw [put1]
  refine ⟨Nat.zero_le _, fun q hq => ?_⟩
  have qp : q ≠ p := fun z => by
    rw [z, upd_same] at hq
    cases hq
  refine ⟨.ref p, h0, p, GC K, dx, pF1 v, rfl, by rw [upd_ne qp.symm, upd_same], cl, no 1, by simp [pF1], ?_⟩
  rw [put2]
  refine ⟨.ref p, h0, p, GC K, dx, pF2 v q, rfl, upd_same, cl, no 2, by simp [pF2], ?_⟩
  rw [put3]
  refine ⟨by rw [sizeLine_eq]; decide, fun l hl => ?_⟩
  have lp : l ≠ p := fun z => by
    rw [z, upd_same] at hl
    cases hl
  refine ⟨.ref p, h0, p, GC K, dx, pF3 v q, rfl, by rw [upd_ne lp.symm, upd_same], cl, no 3, by simp [pF3], ?_⟩
  rw [put4]
  refine ⟨by rw [sizeLine_eq]; decide, fun o ho => ?_⟩
  have op : o ≠ p := fun z => by
    rw [z, upd_same] at ho
    cases ho
  refine ⟨.ref p, h0, p, GC K, dx, pF4 v q l, rfl, by rw [upd_ne op.symm, upd_same], cl, no 4, by simp [pF4], ?_⟩
  rw [put5]
  refine ⟨.ref p, h0, p, GC K, dx, pF5 v q l o, rfl, upd_same, cl, no 5, by simp [pF5], ?_⟩
  rw [put6]
  have hq' : H q = none := by
    rw [upd_ne qp] at hq
    exact hq
  rw [upd_ne lp, upd_ne lp] at hl
  have lq : l ≠ q := fun z => by
    rw [z, upd_same] at hl
    cases hl
  rw [upd_ne lq, upd_ne lp] at hl
  rw [upd_ne op] at ho
  have ol : o ≠ l := fun z => by
    rw [z, upd_same] at ho
    cases ho
  rw [upd_ne ol, upd_ne op, upd_ne op] at ho
  have oq : o ≠ q := fun z => by
    rw [z, upd_same] at ho
    cases ho
  rw [upd_ne oq, upd_ne op] at ho
  refine k q l o _ hq' hl ho (Ne.symm lq) (Ne.symm oq) (Ne.symm ol) upd_same ?_ ?_ ?_ fun a u ea hap => ?_
  · rw [upd_ne qp, upd_ne qp, upd_ne (Ne.symm oq), upd_ne qp, upd_ne (Ne.symm lq), upd_ne qp, upd_ne qp, upd_same]
  · rw [upd_ne lp, upd_ne lp, upd_ne (Ne.symm ol), upd_ne lp, upd_same]
  · rw [upd_ne op, upd_ne op, upd_same]
  · rw [upd_ne hap, upd_ne hap, upd_ne (ne_of_none ea ho), upd_ne hap, upd_ne (ne_of_none ea hl), upd_ne hap, upd_ne hap, upd_ne (ne_of_none ea hq'), upd_ne hap]
    exact ea
end IP
end
section
set_option linter.all false
/-! IS: further operations on data. -/
namespace IP
open PySem
@[simp] def biAny2 : List D → Option Res
  | [.list xs] => match boolsOf xs with
    | some bs => some (.dat (.bool (bs.any id)))
    | none => (intsOf xs).map fun is => .dat (.bool (is.any fun i => i != 0))
  | _ => none
end IP
namespace IP
open PySem
/-- arguments, with defaults behind -/
def aApp (A : Ea) (ds : List D) : Ea := fun δ => (A δ).map fun p => (p.1 ++ ds.map Opd.val, p.2)
end IP
namespace IP
open PySem
/-- lists that stand under a comprehension's own names are frozen ahead of it -/
def fzAll : List Nat → Env → Env
  | [], δ => δ
  | i :: is, δ => fzAll is (freeze δ i)
def vFz (is : List Nat) (f : Ev) : Ev := fun δ => f (fzAll is δ)
def sFz (is : List Nat) (f : Es) : Es := fun δ => f (fzAll is δ)
end IP
end
section
set_option Elab.async false
set_option linter.all false
set_option maxRecDepth 100000
set_option maxHeartbeats 2000000
namespace IP
open PySem L2 PySem.Spec PyProof.Rows
/-! any of a list of ints -/
theorem truth_vals {prog : Program} {w : World} {A : Around} {ns : List Int} {its : List Value} (e : Vals (ns.map V.int) its) :
    TruthOf prog w A (fun i v => its.toArray[i]? = some v) (fun i => ns.getD i 0 != 0) := fun i v s Q E hv hq => by
  have hv' : its[i]? = some v := by simpa using hv
  have key : ∀ (ns : List Int) (its : List Value) (i : Nat), Vals (ns.map V.int) its → its[i]? = some v → ∃ t, v = .int (ns.getD i 0) t := by
    intro ns
    induction ns with
    | nil =>
      intro its i e h
      rw [List.map_nil] at e
      cases e
      simp at h
    | cons n ns ih =>
      intro its i e h
      rw [List.map_cons] at e
      cases e with
      | cons r t =>
        cases i with
        | zero =>
          obtain ⟨k, rfl⟩ := r
          simp at h
          exact ⟨k, h.symm⟩
        | succ i => exact ih _ i t (by simpa using h)
  obtain ⟨t, rfl⟩ := key ns its i e hv'
  exact truthy_int hq
theorem any_rangeI : ∀ ns : List Int, (List.range ns.length).any (fun i => ns.getD i 0 != 0) = ns.any fun i => i != 0
  | [] => rfl
  | b :: bs => by
    rw [List.length_cons, List.range_succ_eq_map, List.any_cons, List.any_map, List.any_cons, ← any_rangeI bs]
    all_goals rfl
section
variable {X : Cx}
def rAnyI (K : PySem.W.Frag) : List V → Hp → VK → Prop := fun vs H Q => ∃ (a : Addr) (ns : List Int), vs = [V.ref a] ∧ SqL K H a (ns.map V.int) ∧ Q (.bl (ns.any fun i => i != 0)) H
theorem cr_anyI (hc : X.calm = true) : CallR X (.builtin "any") (rAnyI X.K) := by
  intro pins s σ H vs us Q I r h
  obtain ⟨a, ns, rfl, hs, q⟩ := h
  obtain ⟨its, rv, hl, _⟩ := I.list hs
  rw [Vals.ref1 r]
  refine call_any_walk (iter_any hl.isList fun s₂ e2 st hne => ?_)
  subst e2
  refine ⟨_, _, _, _, _, _, _, rfl, Walks.list (A := X.A.in1) (I.ok.hd hc) _ a hne its.toArray, st, truth_vals rv, fun h' tk hk => ?_⟩
  refine ⟨.bl _, H, I.kept fun b o eo => hk b o (fun hmem => ?_) (Heap.get?_push_of_some _ eo), ?_, q⟩
  · rcases List.mem_cons.mp hmem with e1 | hmem
    · exact absurd (e1 ▸ Heap.lt_size eo) (Nat.lt_irrefl _)
    · cases hmem
  · show Value.bool _ = Value.bool _
    rw [← any_rangeI, List.size_toArray, ← rv.length, List.length_map]
def rAny2 (K : PySem.W.Frag) : List V → Hp → VK → Prop := fun vs H Q => rAny K vs H Q ∨ rAnyI K vs H Q
theorem cr_any2 (hc : X.calm = true) : CallR X (.builtin "any") (rAny2 X.K) := by
  intro pins s σ H vs us Q I r h
  rcases h with h | h
  · exact cr_any hc pins s σ H vs us Q I r h
  · exact cr_anyI hc pins s σ H vs us Q I r h
end
section
variable {K : PySem.W.Frag}
theorem s_any2 : BiS K (rAny2 K) biAny2 := by
  intro G H0 H δ σ vs ds res eK R r e Q q
  subst eK
  unfold biAny2 at e
  split at e
  · obtain ⟨v, rfl, h⟩ := one r
    obtain ⟨p, xs, rfl, h1, h2⟩ := relT_list R.sub h
    split at e
    · rename_i bs e1
      cases e
      obtain rfl := h2.bools e1
      exact .inl ⟨p, bs, rfl, SqL.of h1, q _ _ _ R (Sub.refl _) (.bl _)⟩
    · simp only [Option.map_eq_some_iff] at e
      obtain ⟨is, e1, rfl⟩ := e
      obtain rfl := h2.ints e1
      exact .inr ⟨p, is, rfl, SqL.of h1, q _ _ _ R (Sub.refl _) (.bl _)⟩
  · cases e
end
end IP
end
section
set_option Elab.async false
set_option linter.all false
set_option maxRecDepth 100000
set_option maxHeartbeats 2000000
namespace IP
open PySem L2 PySem.Spec PyProof.Rows
theorem OpdAll.app {G : Gx} {H0 : Hp} {σ : L2.St} {os os' : List Opd} {vs vs' : List V} (h : OpdAll G H0 σ os vs) (h' : OpdAll G H0 σ os' vs') : OpdAll G H0 σ (os ++ os') (vs ++ vs') := by
  induction h with
  | nil => exact h'
  | cons q _ ih => exact .cons q ih
theorem opd_ints {G : Gx} {H0 : Hp} {σ : L2.St} : ∀ is : List Int, OpdAll G H0 σ ((is.map PyData.int).map Opd.val) (is.map V.int)
  | [] => .nil
  | i :: is => .cons (.int i) (opd_ints is)
section
variable {X : Cx} {c : Fnc} {A : Ea} {CX : CXT} {k : Nat} {fa : Addr} {fd : FuncData} {ps : List Str} {E : XK} {x : Str} {p pos : Pos} {e : Expr} {es : List Expr}
/-- f(e, ..), the last arguments left to their defaults -/
theorem x_callDf {is : List Int} (F : FnOk X.prog X.w X.K X.mg X.base CX k fa fd ps (spI X.K c)) (hr : Room k X.A) (hg : Gl X x) (hm : X.mg x = some (.ref fa)) (hk : PySem.W.keepIn X.K (.ref fa) = true) (hb : ∃ ds, Vals (is.map V.int) ds ∧ Binds X.K fd ps ds) (hx : Passes CX X E)
    (ha : XA X (e :: es) A) (hdb : (x == ("__debug__" : Str)) = false := by decide) (he : starEach (e :: es) X.env = (false, eval e X.env) :: starEach es X.env := by rfl) (hpl : (backTo pos (starEach es X.env)).any (·.1) = false := by rfl) :
    XV X (.Call (.Name x p) (e :: es) [] pos) (vCall c (aApp A (is.map .int))) := by
  obtain ⟨ds, hv, hb⟩ := hb
  refine (pe_call F hr hg hm hk hb hv hx ha hdb he hpl).weak fun σ H Q h => ?_
  have h' := call_read (E := E) h
  obtain ⟨G, H0, δ, os, δ', eK, R, e1, q⟩ := h'
  simp only [aApp, Option.map_eq_some_iff] at e1
  obtain ⟨⟨os1, δ1⟩, e2, e3⟩ := e1
  cases e3
  refine ⟨G, H0, δ, os1, _, eK, R, e2, fun vs A' H' R' s k => ?_⟩
  have this : spI X.K c ((vs ++ is.map V.int) ++ []) H' Q E := q (vs ++ is.map V.int) A' H' R' s (k.app (opd_ints is))
  rw [List.append_nil] at this
  exact this
end
end IP
namespace IP
open PySem L2
theorem Rl.freezes {G : Gx} {H : Hp} {σ : L2.St} : ∀ (is : List Nat) {H0 : Hp} {δ : Env}, Rl G H0 H δ σ → ∃ H0', Rl G H0' H (fzAll is δ) σ ∧ Sub H0 H0'
  | [], H0, _, R => ⟨H0, R, Sub.refl _⟩
  | i :: is, _, _, R => by
    obtain ⟨A, R1, s1⟩ := R.freeze i
    obtain ⟨B, R2, s2⟩ := R1.freezes is
    exact ⟨B, R2, s1.trans s2⟩
section
variable {X : Cx} {e : Expr} {st : Stmt} {f : Ev} {g : Es} {is : List Nat}
theorem xv_fz (h : XV X e f) : XV X e (vFz is f) := h.weak fun σ H Q ⟨G, H0, δ, res, δ', eK, R, e, q⟩ => by
  obtain ⟨A, R1, s1⟩ := R.freezes is
  exact ⟨G, A, _, res, δ', eK, R1, e, fun v A' B' R2 s2 k2 => q v A' B' R2 (s1.trans s2) k2⟩
theorem xs_fz (h : XS X st g) : XS X st (sFz is g) := h.weak fun D σ H ⟨G, H0, δ, o, δ', eK, R, e, q⟩ => by
  obtain ⟨A, R1, s1⟩ := R.freezes is
  exact ⟨G, A, _, o, δ', eK, R1, e, fun σ' A' B' R2 s2 => q σ' A' B' R2 (s1.trans s2)⟩
end
end IP
end
section
set_option linter.all false
/-! IT: further walks and displays. -/
namespace IP
open PySem
/-- range(a, b, 2) -/
def upD (lo : Int) (n : Nat) : List D := (List.range n).map fun k => .int (lo + 2 * (k : Nat))
def iStep2 (f g : Eo) : Ei := fun δ => (f δ).bind fun p => (g p.2).bind fun q => match p.1, q.1 with
  | .val (.int i), .val (.int j) => if small60 i = true ∧ small60 j = true then some ((upD i ((j - i + 1) / 2).toNat, none), q.2) else none
  | _, _ => none
theorem iStep2_at {f g : Eo} {δ δ1 δ2 : Env} {i j : Int} (h1 : f δ = some (.val (.int i), δ1)) (h2 : g δ1 = some (.val (.int j), δ2)) (hi : -1000000000 ≤ i ∧ i ≤ 1000000000) (hj : -1000000000 ≤ j ∧ j ≤ 1000000000) : iStep2 f g δ = some ((upD i ((j - i + 1) / 2).toNat, none), δ2) := by
  rw [iStep2, h1]
  simp only [Option.bind_some]
  rw [h2]
  simp only [Option.bind_some]
  rw [if_pos ⟨small60_of hi, small60_of hj⟩]
/-- a written dict of ints, looked up at once -/
def dix : List (Int × D) → Int → Option D
  | [], _ => none
  | (k, d) :: r, x => if k = x then some d else dix r x
def vDix (kds : List (Int × D)) (f : Eo) : Ev := fun δ => (f δ).bind fun q => match q.1 with
  | .val (.int x) => (dix kds x).map fun d => (.dat d, q.2)
  | _ => none
theorem vDix_at {kds : List (Int × D)} {f : Eo} {δ δ1 : Env} {x : Int} {d : D} (h : f δ = some (.val (.int x), δ1)) (h2 : dix kds x = some d) : vDix kds f δ = some (.dat d, δ1) := by
  unfold vDix
  rw [h]
  simp only [Option.bind_some, h2, Option.map_some]
/-- sorted, of one tuple of one int -/
def biSrt1 : List D → Option Res
  | [.list [.tuple [.int i]]] => if 0 ≤ i ∧ i < 1000 then some (.new [.tuple [.int i]]) else none
  | _ => none
end IP
end
section
set_option Elab.async false
set_option linter.all false
set_option maxRecDepth 100000
set_option maxHeartbeats 400000
namespace IP
open PySem L2 RZ
theorem rangeSize_two (a b : Int) : Builtin.Range.rangeSize a b 2 = (((b - a + 1) / 2).toNat : Int) := by
  unfold Builtin.Range.rangeSize
  simp only [show ((2 : Int) > 0) by decide, if_true]
  split <;> omega
theorem small_two {a b : Int} (ha : -(2 ^ 60) ≤ a) (ha' : a < 2 ^ 60) (hb : -(2 ^ 60) ≤ b) (hb' : b < 2 ^ 60) : Builtin.Range.small a b 2 = true := by
  unfold Builtin.Range.small
  rw [rangeSize_two]
  simp only [Builtin.Range.rangeFitsLong, Bool.and_eq_true, Bool.or_eq_true, decide_eq_true_eq, beq_iff_eq, show ((2 : Int) > 0) by decide, if_true]
  omega
theorem rg_two {i j : Int} (hi : small60 i = true) (hj : small60 j = true) : RgC i j 2 ((j - i + 1) / 2).toNat := by
  have a := of_decide_eq_true hi
  have b := of_decide_eq_true hj
  exact ⟨by decide, by decide, small_two a.1 a.2 b.1 b.2, rangeSize_two i j⟩
section
variable {X : Cx} {K : PySem.W.Frag} {tg e e2 : Expr} {f g : Eo} {pos p : Pos}
theorem upD_get {lo : Int} {n i : Nat} (h : i < n) : (upD lo n)[i]? = some (.int (lo + 2 * (i : Nat))) := by
  unfold upD
  simp [h]
theorem upD_length (lo : Int) (n : Nat) : (upD lo n).length = n := by
  unfold upD
  simp
theorem iw_up {G : Gx} {H0 : Hp} {σ : L2.St} {lo : Int} {n : Nat} : IW G H0 σ (Itc lo 2 n) (upD lo n) none where
  goes := fun i A H δ τ R s hk st h => by
    rw [upD_length] at h
    exact h
  stops := fun A H δ τ R s hk st => by
    rw [upD_length]
    exact Nat.le_refl n
  yields := fun i A H δ τ x H' R s hk st h y => by
    obtain ⟨rfl, rfl⟩ := y
    rw [upD_length] at h
    refine ⟨A, _, R, Sub.refl _, Sub.refl _, Fro.refl, upD_get h, ?_⟩
    rw [show lo + (i : Int) * 2 = lo + 2 * (i : Int) by omega]
    exact .int _
/-- range(a, b, 2) -/
theorem xi_step2 {a b : Expr} {u : Nat} {p1 : Pos} (hg : Gl X "range") (hm : X.mg "range" = none) (ha : XO X a f) (hb : XO X b g)
    (hs : starEach [a, b, .Constant (.int 2) u p1] X.env = (false, eval a X.env) :: starEach [b, .Constant (.int 2) u p1] X.env := by rfl)
    (hs2 : starEach [b, .Constant (.int 2) u p1] X.env = (false, eval b X.env) :: starEach [.Constant (.int 2) u p1] X.env := by rfl)
    (hs3 : starEach [.Constant (.int 2) u p1] X.env = (false, eval (.Constant (.int 2) u p1) X.env) :: starEach [] X.env := by rfl)
    (h4 : (backTo pos (starEach [b, .Constant (.int 2) u p1] X.env)).any (·.1) = false := by rfl) :
    XI X tg (.Call (.Name "range" p) [a, b, .Constant (.int 2) u p1] [] pos) (iStep2 f g) :=
  (pi_range3 hg hm (pa_cons ha (pa_cons hb (pa_cons pe_int pa_nil hs3) hs2) hs) hs h4).weak fun σ H Rr ⟨G, H0, δ, xs, ow, δ', eK, R, e0, q⟩ => by
    simp only [iStep2, Option.bind_eq_some_iff] at e0
    obtain ⟨⟨o, δ1⟩, e1, ⟨o2, δ2⟩, e2, e3⟩ := e0
    refine ⟨G, H0, δ, o, δ1, eK, R, e1, fun v H0' H' R1 s1 k1 => ?_⟩
    refine ⟨G, H0', δ1, o2, δ2, eK, R1, e2, fun w A B R2 s2 k2 => ?_⟩
    cases o with
    | «at» i => cases e3
    | val d =>
      cases d with
      | int j =>
        cases o2 with
        | «at» i => cases e3
        | val d =>
          cases d with
          | int l =>
            dsimp only at e3
            split at e3
            · rename_i hj
              cases e3
              cases k1
              cases k2
              exact ⟨j, l, 2, ((l - j + 1) / 2).toNat, rfl, rg_two hj.1 hj.2, q _ _ _ R2 (s1.trans s2) iw_up⟩
            · cases e3
          | _ => cases e3
      | _ => cases e3
end
end IP
end
section
set_option Elab.async false
set_option linter.all false
set_option maxRecDepth 100000
set_option maxHeartbeats 400000
namespace IP
open PySem L2 RZ
/-! written dicts of ints, looked up at once -/
theorem upd_swap {H : Hp} {p q : Addr} {o u : HO} (h : p ≠ q) : upd (upd H p o) q u = upd (upd H q u) p o := by
  funext a
  by_cases ha : a = q
  · subst ha
    rw [upd_same, upd_ne h.symm, upd_same]
  · rw [upd_ne ha]
    by_cases hb : a = p
    · subst hb
      rw [upd_same, upd_same]
    · rw [upd_ne hb, upd_ne hb, upd_ne ha]
theorem upd_twice {H : Hp} {p : Addr} {o u : HO} : upd (upd H p o) p u = upd H p u := by
  funext a
  by_cases ha : a = p
  · subst ha
    rw [upd_same, upd_same]
  · rw [upd_ne ha, upd_ne ha, upd_ne ha]
def TEok (X : Cx) (te : TE) (d : D) : Prop := ∀ {G : Gx} {A H : Hp} {δ : Env} {σ : L2.St} {p : Addr} {o : HO} (Q : VK), Rl G A H δ σ → H p = none →
  (∀ v A' H', Rl G A' H' δ σ → Sub A A' → H' p = none → Rel G.K A' v d → Q v (upd H' p o)) → te σ (upd H p o) Q
def DV (X : Cx) (e : Expr) (d : D) : Prop := ∃ te, PE X e te ∧ TEok X te d
def PAi (X : Cx) (es : List Expr) (is : List Int) : Prop := ∃ ta, PA X es ta ∧ ∀ σ H (Q : List V → Hp → Prop), Q (is.map V.int) H → ta σ H Q
section
variable {X : Cx} {pos : Pos}
theorem dv_int {i : Int} {u : Nat} : DV X (.Constant (.int i) u pos) (.int i) := ⟨_, pe_int, fun Q R hp h => h _ _ _ R (Sub.refl _) hp (.int i)⟩
theorem pai_nil : PAi X [] [] := ⟨_, pa_nil, fun σ H Q h => h⟩
theorem pai_cons {i : Int} {u : Nat} {es : List Expr} {is : List Int} (h : PAi X es is) (hs : starEach (.Constant (.int i) u pos :: es) X.env = (false, eval (.Constant (.int i) u pos) X.env) :: starEach es X.env := by rfl) : PAi X (.Constant (.int i) u pos :: es) (i :: is) := by
  obtain ⟨ta, h1, h2⟩ := h
  exact ⟨_, pa_cons pe_int h1 hs, fun σ H Q q => h2 σ H _ q⟩
theorem relall_ints {K : PySem.W.Frag} {H : Hp} : ∀ is : List Int, RelAll K H (is.map V.int) (is.map PyData.int)
  | [] => .nil
  | i :: is => .cons (.int i) (relall_ints is)
theorem dv_lst {es : List Expr} {is : List Int} (h : PAi X es is) (hl : is.length ≤ 16000000 := by decide) : DV X (.List es pos) (.list (is.map .int)) := by
  obtain ⟨ta, h1, h2⟩ := h
  refine ⟨_, pe_lst h1, ?_⟩
  intro G A H δ σ p o Q R hp q
  refine h2 σ _ _ ⟨by rw [List.length_map, sizeLine_eq]; omega, fun q' hq' => ?_⟩
  have hne : p ≠ q' := fun e => by
    subst e
    rw [upd_same] at hq'
    cases hq'
  rw [upd_ne hne.symm] at hq'
  rw [upd_swap hne]
  obtain ⟨R1, s1⟩ := R.laid0 (o := .lst (is.map V.int)) hq'
  refine q _ _ _ R1 s1 (by rw [upd_ne hne]; exact hp) (.lst upd_same (relall_ints is))
def PD (X : Cx) (pos : Pos) (keys : List (Option Expr)) (values : List Expr) (kds : List (Int × D)) : Prop := ∃ trs, PPs X pos keys values trs ∧
  ∀ {G : Gx} {A H : Hp} {δ : Env} {σ : L2.St} {p : Addr} {o : HO} (Q : List (V × V) → Hp → Prop), Rl G A H δ σ → H p = none →
    (∀ vs A' H', Rl G A' H' δ σ → Sub A A' → H' p = none → RelAll G.K A' vs (kds.map Prod.snd) → Q ((kds.map fun kd => V.int kd.1).zip vs) (upd H' p o)) → tPairs trs σ (upd H p o) Q
theorem pd_nil : PD X pos [] [] [] := ⟨_, pps_nil, fun Q R hp h => h _ _ _ R (Sub.refl _) hp .nil⟩
theorem pd_cons {k : Int} {u : Nat} {kp : Pos} {v : Expr} {d : D} {ks : List (Option Expr)} {vs : List Expr} {kds : List (Int × D)} (hv : DV X v d) (hr : PD X pos ks vs kds) : PD X pos (some (.Constant (.int k) u kp) :: ks) (v :: vs) ((k, d) :: kds) := by
  obtain ⟨te, v1, v2⟩ := hv
  obtain ⟨trs, r1, r2⟩ := hr
  refine ⟨_, pps_cons pe_int v1 r1, ?_⟩
  intro G A H δ σ p o Q R hp q
  refine v2 _ R hp fun x A1 H1 R1 s1 hp1 k1 => ?_
  refine r2 _ R1 hp1 fun ws A2 H2 R2 s2 hp2 k2 => ?_
  exact q (x :: ws) A2 H2 R2 (s1.trans s2) hp2 (.cons (Rel.sub s2 k1) k2)
theorem zip_keys : ∀ (kds : List (Int × D)) (vs : List V), vs.length = kds.length → (kds.map fun kd => V.int kd.1).zip vs = ((kds.map fun kd => (Sum.inl kd.1 : Key)).zip vs).map fun kv => (kV kv.1, kv.2)
  | [], [], _ => rfl
  | [], _ :: _, h => by cases h
  | _ :: _, [], h => by cases h
  | kd :: kds, v :: vs, h => by
    simp only [List.map_cons, List.zip_cons_cons]
    rw [zip_keys kds vs (by simpa using h)]
    rfl
theorem relall_len {K : PySem.W.Frag} {H : Hp} : ∀ {vs : List V} {ds : List D}, RelAll K H vs ds → vs.length = ds.length
  | [], [], _ => rfl
  | _ :: _, _ :: _, .cons _ h => by rw [List.length_cons, List.length_cons, relall_len h]
theorem merge_nd : ∀ (kvs acc : List (Key × V)), ((acc ++ kvs).map Prod.fst).Nodup → mergeK acc kvs = acc ++ kvs
  | [], acc, _ => by rw [List.append_nil]; rfl
  | kv :: kvs, acc, h => by
    have hn : valV acc kv.1 = none := by
      unfold valV
      rw [List.find?_eq_none.mpr]
      · rfl
      · intro x hx e
        have e : x.1 = kv.1 := by simpa using e
        rw [List.map_append, List.map_cons, List.nodup_append] at h
        exact h.2.2 x.1 (List.mem_map.mpr ⟨x, hx, rfl⟩) kv.1 List.mem_cons_self e
    show mergeK (putK acc kv.1 kv.2) kvs = _
    rw [putK_new _ hn, merge_nd kvs _ (by rw [List.append_assoc]; exact h), List.append_assoc]
    rfl
theorem dix_val {K : PySem.W.Frag} {H : Hp} : ∀ {kds : List (Int × D)} {vs : List V} {x : Int} {d : D}, RelAll K H vs (kds.map Prod.snd) → dix kds x = some d → ∃ v, valV ((kds.map fun kd => (Sum.inl kd.1 : Key)).zip vs) (Sum.inl x) = some v ∧ Rel K H v d
  | [], _, x, d, _, h => by cases h
  | (k, e) :: kds, _, x, d, .cons (v := v) h1 h2, h => by
    unfold dix at h
    by_cases c : k = x
    · rw [if_pos c] at h
      cases h
      subst c
      exact ⟨v, valV_pos rfl, h1⟩
    · rw [if_neg c] at h
      obtain ⟨w, e1, e2⟩ := dix_val h2 h
      exact ⟨w, (valV_neg (fun z => c (by cases z; rfl))).trans e1, e2⟩
theorem x_dix {keys : List (Option Expr)} {values : List Expr} {kds : List (Int × D)} {i : Expr} {f : Eo} {p1 p2 : Pos} (hd : PD X p1 keys values kds) (hf : XO X i f) (hr : Room 0 X.A) (hnd : (kds.map Prod.fst).Nodup) (h15 : kds.length ≤ 15)
    (hall : keys.all (·.isSome) = true := by rfl) (hl : keys.length = values.length := by rfl) (h0 : keys ≠ [] := by exact fun z => by cases z) (hk : keys.length ≤ 15 := by decide) (hs : NoSl i := by exact fun _ _ => rfl) :
    XV X (.Subscript (.Dict keys values p1) i p2) (vDix kds f) := by
  obtain ⟨trs, d1, d2⟩ := hd
  refine (pe_dget (hu_of hr) (pe_disp d1 hall hl h0 hk) hf hs).weak fun σ H Q ⟨G, H0, δ, r, δ', eK, R, e, q⟩ => ?_
  unfold vDix at e
  simp only [Option.bind_eq_some_iff] at e
  obtain ⟨⟨o, δ1⟩, e1, e2⟩ := e
  intro p hp
  refine d2 _ R hp fun vs A H1 R1 s1 hp1 k1 => ?_
  have hlen : vs.length = kds.length := by rw [relall_len k1, List.length_map]
  refine ⟨upd_same, (kds.map fun kd => (Sum.inl kd.1 : Key)).zip vs, zip_keys kds vs hlen, by simp [hlen]; exact h15, ?_⟩
  rw [upd_twice]
  have nd : (((kds.map fun kd => (Sum.inl kd.1 : Key)).zip vs).map Prod.fst).Nodup := by
    rw [List.map_fst_zip (by simp [hlen])]
    rw [show (kds.map fun kd => (Sum.inl kd.1 : Key)) = (kds.map Prod.fst).map Sum.inl by rw [List.map_map]; rfl]
    exact hnd.map (f := Sum.inl) (fun a b hab e => hab (by cases e; rfl))
  rw [merge_nd _ [] (by rw [List.nil_append]; exact nd), List.nil_append]
  obtain ⟨R2, s2⟩ := R1.laid0 (o := .dK ((kds.map fun kd => (Sum.inl kd.1 : Key)).zip vs)) hp1
  refine ⟨G, _, δ, o, δ1, eK, R2, e1, fun y A2 H2 R3 s3 k3 => ?_⟩
  cases o with
  | «at» i => cases e2
  | val dd =>
    cases dd with
    | int x =>
      simp only [Option.map_eq_some_iff] at e2
      obtain ⟨d, e3, e4⟩ := e2
      cases e4
      cases k3
      obtain ⟨v, v1, v2⟩ := dix_val (k1.sub (s2.trans s3)) e3
      have at_ : H2 p = some (.dK ((kds.map fun kd => (Sum.inl kd.1 : Key)).zip vs)) := R3.sub _ _ (s3 _ _ upd_same)
      refine ⟨p, v, rfl, ?_, q v A2 H2 R3 ((s1.trans s2).trans s3) v2⟩
      rw [← v1]
      exact DGet.k (k := Sum.inl x) at_
    | _ => cases e2
end
end IP
end
section
set_option Elab.async false
set_option linter.all false
set_option maxRecDepth 100000
set_option maxHeartbeats 400000
namespace IP
open PySem L2 PySem.Spec PyProof.Rows
section
variable {X : Cx}
theorem cr_srt1 (hc : X.calm = true) : CallR X (.builtin "sorted") (rSortU X.K 1 1000) := cr_sortT (by decide)
end
section
variable {K : PySem.W.Frag}
theorem s_srt1 : BiS K (rSortU K 1 1000) biSrt1 := by
  intro G H0 H δ σ vs ds res eK R r e Q q
  subst eK
  unfold biSrt1 at e
  split at e
  · rename_i i
    split at e
    · rename_i hi
      cases e
      obtain ⟨v, rfl, h⟩ := one r
      obtain ⟨a, xs, rfl, h1, h2⟩ := relT_list R.sub h
      cases h2 with
      | cons h3 h4 =>
        cases h4
        rename_i x
        have ht : ∃ t, x = .ref t ∧ SqT G.K H0 t ([i].map V.int) := by
          cases h3 with
          | tup e1 e2 =>
            cases e2 with
            | cons e3 e4 =>
              cases e4
              cases e3
              exact ⟨_, rfl, SqT.of e1⟩
        obtain ⟨t, rfl, ht⟩ := ht
        refine ⟨a, [.ref t], rfl, SqL.of h1, (by simp), fun y hy => ?_, fun ys p hp _ hn => ?_⟩
        · rw [List.mem_singleton.mp hy]
          exact ⟨[i], ⟨t, rfl, SqT.sub R.sub ht⟩, rfl, fun m hm => by rw [List.mem_singleton.mp hm]; exact hi⟩
        · rw [List.perm_singleton.mp hp]
          have f := R.freshI hn
          exact q _ _ _ (R.laid hn) (Sub.refl _) ⟨p, _, rfl, upd_same, .cons h3 .nil, f.1, f.2.1, f.2.2⟩
    · cases e
  · cases e
end
end IP
end
section
set_option linter.all false
/-! IU: sorted of at most one item. -/
namespace IP
open PySem
def biSrtO : List D → Option Res
  | [.list xs] => if xs.length ≤ 1 then some (.new xs) else none
  | _ => none
end IP
end
section
set_option Elab.async false
set_option linter.all false
set_option maxRecDepth 100000
set_option maxHeartbeats 400000
namespace IP
open PySem L2 PySem.Spec PyProof.Rows
theorem perm_one {α : Type} : ∀ {l o : List α}, l.length ≤ 1 → o.Perm l → o = l
  | [], _, _, h => List.perm_nil.mp h
  | [x], _, _, h => List.perm_singleton.mp h
  | _ :: _ :: _, _, h, _ => by simp at h
section
variable {X : Cx}
def rSortO (K : PySem.W.Frag) : List V → Hp → VK → Prop := fun vs H Q => ∃ (a : Addr) (xs : List V), vs = [V.ref a] ∧ SqL K H a xs ∧ xs.length ≤ 1 ∧ ∀ (p : Addr), H p = none → Q (.ref p) (upd H p (.lst xs))
theorem cr_srtO (hc : X.calm = true) : CallR X (.builtin "sorted") (rSortO X.K) := by
  intro pins s σ H vs us Q I r h
  obtain ⟨a, xs, rfl, hs, h1, q⟩ := h
  obtain ⟨its, rv, hl, hz⟩ := I.list hs
  rw [Vals.ref1 r]
  have hlen : its.length ≤ 1 := by rw [← rv.length]; exact h1
  refine Srt.sorted_any hl.isList (by rw [← rv.length]; exact hz) (fun h2 => absurd h2 (by omega)) fun out hp => ?_
  have eo : out = its := perm_one hlen hp
  subst eo
  obtain ⟨ep, he'⟩ := PyProof.Rows.sortedAll_at s.heap out out.toArray
  refine ⟨.ref _, upd H (s.heap.objs.size + 1) (.lst xs), I.laid (t' := s.toks) (fun _ _ => PyProof.Rows.sortedAll_old) (Nat.le_succ _) ⟨hz, out, ep, rv, he'⟩, rfl, q _ (I.hok.fresh (Nat.le_succ _))⟩
end
section
variable {K : PySem.W.Frag}
theorem s_srtO : BiS K (rSortO K) biSrtO := by
  intro G H0 H δ σ vs ds res eK R r e Q q
  subst eK
  unfold biSrtO at e
  split at e
  · rename_i ds'
    split at e
    · rename_i hi
      cases e
      obtain ⟨v, rfl, h⟩ := one r
      obtain ⟨a, xs, rfl, h1, h2⟩ := relT_list R.sub h
      refine ⟨a, xs, rfl, SqL.of h1, by rw [h2.length]; exact hi, fun p hn => ?_⟩
      have f := R.freshI hn
      exact q _ _ _ (R.laid hn) (Sub.refl _) ⟨p, _, rfl, upd_same, h2, f.1, f.2.1, f.2.2⟩
    · cases e
  · cases e
end
end IP
end
section
set_option linter.all false
/-! IV: owned dicts with int keys. -/
namespace IP
open PySem
def dFind : List (D × D) → Int → Option D
  | [], _ => none
  | (.int j, d) :: r, i => if j = i then some d else dFind r i
  | _ :: r, i => dFind r i
def dRepl (i : Int) (v : D) : List (D × D) → List (D × D)
  | [] => []
  | (.int j, d) :: r => (if j = i then (.int j, v) else (.int j, d)) :: dRepl i v r
  | e :: r => e :: dRepl i v r
def dPutI (kvs : List (D × D)) (i : Int) (v : D) : List (D × D) := if (dFind kvs i).isSome = true then dRepl i v kvs else kvs ++ [(.int i, v)]
def dctI (δ : Env) (i : Nat) : Option (List (D × D)) := match δ[i]? with
  | some (.dct false kvs) => some kvs
  | _ => none
def vDNew (t : Bool) : Ev := fun δ => some (.newD t [], δ)
/-- a written dict of ints, kept -/
def vDisp (kds : List (Int × D)) : Ev := fun δ => some (.newD false (kds.map fun kd => (.int kd.1, kd.2)), δ)
def vDIx (i : Nat) (f : Eo) : Ev := fun δ => (dctI δ i).bind fun _ => (f δ).bind fun p => match p.1 with
  | .val (.int k) => (dctI p.2 i).bind fun kvs => (dFind kvs k).map fun d => (.dat d, p.2)
  | _ => none
def vDIn (f : Eo) (i : Nat) : Ev := fun δ => (f δ).bind fun p => match p.1 with
  | .val (.int k) => (dctI p.2 i).map fun kvs => (.dat (.bool (dFind kvs k).isSome), p.2)
  | _ => none
def vDNin (f : Eo) (i : Nat) : Ev := fun δ => (f δ).bind fun p => match p.1 with
  | .val (.int k) => (dctI p.2 i).map fun kvs => (.dat (.bool (!(dFind kvs k).isSome)), p.2)
  | _ => none
def vDGet (i : Nat) (f g : Eo) : Ev := fun δ => (dctI δ i).bind fun _ => (f δ).bind fun p => (g p.2).bind fun q => match p.1, q.1 with
  | .val (.int k), .val x => (dctI q.2 i).map fun kvs => (.dat ((dFind kvs k).getD x), q.2)
  | _, _ => none
def sDSet (i : Nat) (ky : Eo) (f : Ev) : Es := fun δ => (f δ).bind fun p => (dctI p.2 i).bind fun _ => (ky p.2).bind fun q => match q.1 with
  | .val (.int k) => (dctI q.2 i).bind fun kvs => if kvs.length < line then some (.nx, q.2.set i (.dct false (dPutI kvs k p.1.toD))) else none
  | _ => none
end IP
end
section
set_option Elab.async false
set_option linter.all false
set_option maxRecDepth 100000
set_option maxHeartbeats 400000
namespace IP
open PySem L2
section
variable {K : PySem.W.Frag} {A B H : Hp}
theorem relK_find : ∀ {ks : List (L2.Key × V)} {kvs : List (D × D)}, RelK K A ks kvs → ∀ i : Int, (dFind kvs i = none ∧ valV ks (Sum.inl i) = none) ∨ ∃ d v, dFind kvs i = some d ∧ valV ks (Sum.inl i) = some v ∧ Rel K A v d
  | _, _, .nil, i => .inl ⟨rfl, rfl⟩
  | _, _, .cons (i := j) (v := v) (d := d) (ks := ks) (kvs := kvs) r t, i => by
    by_cases h : j = i
    · subst h
      refine .inr ⟨d, v, ?_, ?_, r⟩
      · unfold dFind
        rw [if_pos rfl]
      · unfold valV
        rw [List.find?_cons_of_pos (by simp)]
        rfl
    · have e1 : dFind ((.int j, d) :: kvs) i = dFind kvs i := by
        rw [dFind, if_neg h]
      have e2 : valV ((Sum.inl j, v) :: ks) (Sum.inl i) = valV ks (Sum.inl i) := by
        unfold valV
        rw [List.find?_cons_of_neg (by simp; exact h)]
      rw [e1, e2]
      exact relK_find t i
theorem relK_repl {i : Int} {v' : V} {d' : D} (q : Rel K A v' d') : ∀ {ks : List (L2.Key × V)} {kvs : List (D × D)}, RelK K A ks kvs → RelK K A (ks.map fun kv => if kv.1 = Sum.inl i then (kv.1, v') else kv) (dRepl i d' kvs)
  | _, _, .nil => .nil
  | _, _, .cons (i := j) (v := v) (d := d) (ks := ks) (kvs := kvs) r t => by
    rw [dRepl, List.map_cons]
    by_cases h : j = i
    · rw [if_pos (by rw [h]), if_pos h]
      exact .cons q (relK_repl q t)
    · rw [if_neg (by simp; exact h), if_neg h]
      exact .cons r (relK_repl q t)
theorem RelK.app {v' : V} {d' : D} {i : Int} (q : Rel K A v' d') : ∀ {ks : List (L2.Key × V)} {kvs : List (D × D)}, RelK K A ks kvs → RelK K A (ks ++ [(Sum.inl i, v')]) (kvs ++ [(.int i, d')])
  | _, _, .nil => .cons q .nil
  | _, _, .cons r t => .cons r (RelK.app q t)
theorem RelK.len : ∀ {ks : List (L2.Key × V)} {kvs : List (D × D)}, RelK K A ks kvs → ks.length = kvs.length
  | _, _, .nil => rfl
  | _, _, .cons _ t => by rw [List.length_cons, List.length_cons, RelK.len t]
theorem any_val {ks : List (L2.Key × V)} {k : L2.Key} : (ks.any fun kv => decide (kv.1 = k)) = (valV ks k).isSome := by
  unfold valV
  induction ks with
  | nil => rfl
  | cons e r ih =>
    rw [List.any_cons, List.find?_cons]
    by_cases h : e.1 = k
    · simp [h]
    · rw [decide_eq_false h, Bool.false_or, ih]
theorem relK_put {i : Int} {v' : V} {d' : D} (q : Rel K A v' d') {ks : List (L2.Key × V)} {kvs : List (D × D)} (r : RelK K A ks kvs) : RelK K A (putK ks (Sum.inl i) v') (dPutI kvs i d') := by
  unfold putK dPutI
  rw [any_val]
  rcases relK_find r i with ⟨e1, e2⟩ | ⟨d, v, e1, e2, _⟩
  · rw [e1, e2]
    exact RelK.app q r
  · rw [e1, e2]
    exact relK_repl q r
end
section
variable {G : Gx} {H0 H H' : Hp} {δ : Env} {σ : L2.St} {i : Nat}
theorem RowOf.in2 {H H' : Hp} {p q : Addr} (h : RowOf H p q) (k : ∀ C dx l, H p = some (.ins C dx l) → H' p = some (.ins C dx l)) : RowOf H' p q := by
  obtain ⟨C, dx, a, b, c, d, e, x⟩ := h
  exact ⟨C, dx, a, b, c, d, e, k _ _ _ x⟩
theorem Rl.holdsOf2 (R : Rl G H0 H δ σ) (k : ∀ a C dx l, H a = some (.ins C dx l) → H' a = some (.ins C dx l)) {a : Addr} (h : Holds H' δ σ i a) : Holds H δ σ i a := by
  obtain ⟨s, e1, e2, p, e3, e4⟩ := h
  refine ⟨s, e1, e2, p, e3, ?_⟩
  rcases e4 with e4 | ⟨e4, e5⟩
  · exact .inl e4
  · obtain ⟨q, fs, ob, _⟩ := R.ob e1 e4 e3
    have r := ob.row.in2 (k p)
    rw [e5.inj r]
    exact .inr ⟨e4, ob.row⟩
/-- an owned dict is changed -/
theorem Rl.putD {p : Addr} {ks : List (L2.Key × V)} {kvs kvs' : List (D × D)} (R : Rl G H0 H δ σ) (e : δ[i]? = some (.dct false kvs)) (hi : σ[i]? = some (some (.ref p))) (hv : RelK G.K H0 ks kvs') : Rl G H0 (upd H p (.dK ks)) (δ.set i (.dct false kvs')) σ := by
  have hlt : i < δ.length := (List.getElem?_eq_some_iff.mp e).1
  obtain ⟨p', e1, ⟨us, hus, _⟩, e3, e4⟩ := R.slot i _ e
  rw [hi] at e1
  cases e1
  have hh := Holds.of (H := H) e rfl hi
  have kk : ∀ a C dx l, H a = some (.ins C dx l) → upd H p (.dK ks) a = some (.ins C dx l) := fun a C dx l x => by
    have ha : a ≠ p := fun z => by
      rw [z, hus] at x
      cases x
    rw [upd_ne ha]
    exact x
  have hold : ∀ j q, Holds (upd H p (.dK ks)) (δ.set i (.dct false kvs')) σ j q → Holds H δ σ j q := fun j q ⟨u, u1, u2, u3⟩ => by
    by_cases hj : i = j
    · subst hj
      rw [List.getElem?_set_self hlt] at u1
      cases u1
      obtain ⟨p', y1, y2⟩ := u3
      rcases y2 with y2 | ⟨y2, _⟩
      · exact ⟨_, e, rfl, p', y1, .inl y2⟩
      · cases y2
    · rw [List.getElem?_set_ne hj] at u1
      exact R.holdsOf2 kk ⟨u, u1, u2, u3⟩
  refine ⟨by rw [List.length_set]; exact R.len, fun a u h => ?_, R.up, fun a u h hh' hq => ?_, R.fro, fun j u h => ?_, fun a b q h1 h2 => R.inj a b q (hold _ _ h1) (hold _ _ h2), fun z hz => ?_, fun q hq => ?_, tabs_upd R.tabs hus (fun z => z)⟩
  · rw [upd_ne (ne_of_none h e3)]
    exact R.sub a u h
  · have ha : a ≠ p := fun z => by
      rw [z, e4] at h
      cases h
    rw [upd_ne ha]
    exact R.keep a u h hh' hq
  · by_cases hj : i = j
    · subst hj
      rw [List.getElem?_set_self hlt] at h
      cases h
      exact ⟨p, hi, ⟨ks, upd_same, hv⟩, e3, e4⟩
    · rw [List.getElem?_set_ne hj] at h
      refine (R.slot j u h).mono (Sub.refl _) (fun a o e' h1 h2 => ?_) (fun _ _ _ n => n)
      have ha : a ≠ p := fun z => by
        subst z
        exact hj (R.inj i j a hh ⟨u, h, h1, h2⟩)
      rw [upd_ne ha]
      exact e'
  · obtain ⟨u, e5, e6, e7⟩ := R.prs z hz
    by_cases hj : i = z.1
    · subst hj
      rw [e5] at e
      cases e
      cases e6
    · exact ⟨u, by rw [List.getElem?_set_ne hj]; exact e5, e6, e7⟩
  · obtain ⟨j, fs, p', e5, e6, e7⟩ := R.qrs q hq
    refine ⟨j, fs, p', ?_, e6, e7.in2 (kk p')⟩
    have hj : i ≠ j := fun z => by
      subst z
      rw [e5] at e
      cases e
    rw [List.getElem?_set_ne hj]
    exact e5
theorem dct_at {kvs : List (D × D)} (h : dctI δ i = some kvs) : δ[i]? = some (.dct false kvs) := by
  unfold dctI at h
  split at h
  · rename_i k e
    cases h
    exact e
  · cases h
theorem Rl.dAt (R : Rl G H0 H δ σ) {kvs : List (D × D)} (h : dctI δ i = some kvs) : ∃ p ks, σ[i]? = some (some (.ref p)) ∧ H p = some (.dK ks) ∧ RelK G.K H0 ks kvs := by
  obtain ⟨p, e1, ⟨ks, e2, e3⟩, _⟩ := R.slot i _ (dct_at h)
  exact ⟨p, ks, e1, e2, e3⟩
end
section
variable {X : Cx} {pos : Pos} {f g : Eo} {b c : Expr} {i : Nat} {x : Str} {xp : Pos}
theorem x_dnew {t : Bool} : XV X (.Dict [] [] pos) (vDNew t) := by
  cases t with
  | false =>
    exact pe_dnewK.weak fun σ H Q ⟨G, H0, δ, r, δ', _, R, e, q⟩ => by
      cases e
      intro p hp
      have fr := R.freshU (o := .dK []) hp
      exact q _ _ _ (R.laid hp) (Sub.refl _) ⟨p, rfl, ⟨[], upd_same, .nil⟩, fr.1, fr.2.1, fr.2.2⟩
  | true =>
    exact pe_dnewT.weak fun σ H Q ⟨G, H0, δ, r, δ', _, R, e, q⟩ => by
      cases e
      intro p hp
      have fr := R.freshU (o := .dT []) hp
      exact q _ _ _ (R.laid hp) (Sub.refl _) ⟨p, rfl, ⟨[], upd_same, .nil⟩, fr.1, fr.2.1, fr.2.2⟩
theorem x_dixV (hu : X.A.units + 1 < cLine) (hN : X.N[i]? = some x) (hv : Vis X.env.scope x) (hb : XO X b f) (hs : NoSl b := by exact fun _ _ => rfl) (hd : (x == ("__debug__" : Str)) = false := by decide) (hcd : (x == ("__classdict__" : Str)) = false := by decide) : XV X (.Subscript (.Name x xp) b pos) (vDIx i f) :=
  (pe_dget hu (pe_var hN hv hd hcd) hb hs).weak fun σ H Q ⟨G, H0, δ, r, δ', eK, R, e, q⟩ => by
    simp only [vDIx, Option.bind_eq_some_iff] at e
    obtain ⟨kvs0, e0, ⟨o, δ1⟩, e1, e2⟩ := e
    obtain ⟨p, ks0, s1, _, _⟩ := R.dAt e0
    refine ⟨.ref p, s1, ?_⟩
    refine ⟨G, H0, δ, o, δ1, eK, R, e1, fun v A H1 R1 s2 k1 => ?_⟩
    cases o with
    | «at» _ => cases e2
    | val d =>
      cases d with
      | int k =>
        simp only [Option.bind_eq_some_iff, Option.map_eq_some_iff] at e2
        obtain ⟨kvs, e3, d, e4, e5⟩ := e2
        cases e5
        obtain ⟨p', ks, t1, t2, t3⟩ := R1.dAt e3
        rw [s1] at t1
        cases t1
        rcases relK_find t3 k with ⟨z, _⟩ | ⟨d', w, z1, z2, z3⟩
        · rw [e4] at z
          cases z
        · rw [e4] at z1
          cases z1
          cases k1
          exact ⟨p, w, rfl, .inl ⟨ks, Sum.inl k, .inl t2, rfl, z2.symm⟩, q _ _ _ R1 s2 z3⟩
      | _ => cases e2
theorem dget2_read {td : TE} {K : PySem.W.Frag} (htd : td = tVar i) {σ : L2.St} {H : Hp} {Q : VK} (h : kE K (vDGet i f g) σ H Q) : tDGet2 td (kO K f) (kO K g) σ H Q := by
  subst htd
  obtain ⟨G, H0, δ, r, δ', eK, R, e, q⟩ := h
  simp only [vDGet, Option.bind_eq_some_iff] at e
  obtain ⟨kvs0, e0, ⟨o, δ1⟩, e1, ⟨o2, δ2⟩, e2, e3⟩ := e
  obtain ⟨p, ks0, s1, s2, _⟩ := R.dAt e0
  refine ⟨.ref p, s1, p, rfl, .inl ⟨ks0, .inl s2⟩, ?_⟩
  refine ⟨G, H0, δ, o, δ1, eK, R, e1, fun v A H1 R1 u1 k1 => ?_⟩
  refine ⟨G, A, δ1, o2, δ2, eK, R1, e2, fun w B H2 R2 u2 k2 => ?_⟩
  cases o with
  | «at» _ => cases e3
  | val d =>
    cases d with
    | int k =>
      cases o2 with
      | «at» _ => cases e3
      | val dx =>
        simp only [Option.map_eq_some_iff] at e3
        obtain ⟨kvs, e4, e5⟩ := e3
        cases e5
        obtain ⟨p', ks, t1, t2, t3⟩ := R2.dAt e4
        rw [s1] at t1
        cases t1
        have k1' : v = .int k := by
          cases k1
          rfl
        subst k1'
        rcases relK_find t3 k with ⟨z1, z2⟩ | ⟨d', w', z1, z2, z3⟩
        · refine ⟨none, .inl ⟨ks, Sum.inl k, .inl t2, rfl, z2.symm⟩, ?_⟩
          refine q _ _ _ R2 (u1.trans u2) ?_
          rw [z1]
          exact k2
        · refine ⟨some w', .inl ⟨ks, Sum.inl k, .inl t2, rfl, z2.symm⟩, ?_⟩
          refine q _ _ _ R2 (u1.trans u2) ?_
          rw [z1]
          exact z3
    | _ => cases o2 <;> cases e3
theorem x_dget (hu : X.A.units + 1 < cLine) (hN : X.N[i]? = some x) (hv : Vis X.env.scope x) (hb : XO X b f) (hc : XO X c g) {apos cpos : Pos} (m : M2 X (.Name x xp) "get" apos b c cpos) (hd : (x == ("__debug__" : Str)) = false := by decide) (hcd : (x == ("__classdict__" : Str)) = false := by decide) : XV X (.Call (.Attribute (.Name x xp) "get" apos) [b, c] [] cpos) (vDGet i f g) :=
  (pe_dget2 hu (pe_var hN hv hd hcd) hb hc m).weak fun σ H Q h => dget2_read rfl h
theorem din_read {K : PySem.W.Frag} {σ : L2.St} {H : Hp} {Q : VK} (h : kE K (vDIn f i) σ H Q) : tDIn (kO K f) (tVar i) σ H Q := by
  obtain ⟨G, H0, δ, r, δ', eK, R, e, q⟩ := h
  simp only [vDIn, Option.bind_eq_some_iff] at e
  obtain ⟨⟨o, δ1⟩, e1, e2⟩ := e
  refine ⟨G, H0, δ, o, δ1, eK, R, e1, fun v A H1 R1 u1 k1 => ?_⟩
  cases o with
  | «at» _ => cases e2
  | val d =>
    cases d with
    | int k =>
      simp only [Option.map_eq_some_iff] at e2
      obtain ⟨kvs, e4, e5⟩ := e2
      cases e5
      obtain ⟨p', ks, t1, t2, t3⟩ := R1.dAt e4
      have k1' : v = .int k := by
        cases k1
        rfl
      subst k1'
      refine ⟨.ref p', t1, p', valV ks (Sum.inl k), rfl, .inl ⟨ks, Sum.inl k, .inl t2, rfl, rfl⟩, ?_⟩
      refine q _ _ _ R1 u1 ?_
      rcases relK_find t3 k with ⟨z1, z2⟩ | ⟨d', w', z1, z2, z3⟩
      · rw [z1, z2]
        exact .bl _
      · rw [z1, z2]
        exact .bl _
    | _ => cases e2
theorem dnin_read {K : PySem.W.Frag} {σ : L2.St} {H : Hp} {Q : VK} (h : kE K (vDNin f i) σ H Q) : tDNotIn (kO K f) (tVar i) σ H Q := by
  obtain ⟨G, H0, δ, r, δ', eK, R, e, q⟩ := h
  simp only [vDNin, Option.bind_eq_some_iff] at e
  obtain ⟨⟨o, δ1⟩, e1, e2⟩ := e
  refine ⟨G, H0, δ, o, δ1, eK, R, e1, fun v A H1 R1 u1 k1 => ?_⟩
  cases o with
  | «at» _ => cases e2
  | val d =>
    cases d with
    | int k =>
      simp only [Option.map_eq_some_iff] at e2
      obtain ⟨kvs, e4, e5⟩ := e2
      cases e5
      obtain ⟨p', ks, t1, t2, t3⟩ := R1.dAt e4
      have k1' : v = .int k := by
        cases k1
        rfl
      subst k1'
      refine ⟨.ref p', t1, p', valV ks (Sum.inl k), rfl, .inl ⟨ks, Sum.inl k, .inl t2, rfl, rfl⟩, ?_⟩
      refine q _ _ _ R1 u1 ?_
      rcases relK_find t3 k with ⟨z1, z2⟩ | ⟨d', w', z1, z2, z3⟩
      · rw [z1, z2]
        exact .bl _
      · rw [z1, z2]
        exact .bl _
    | _ => cases e2
theorem x_din (hu : X.A.units + 1 < cLine) (hN : X.N[i]? = some x) (hv : Vis X.env.scope x) (hb : XO X b f) (hd : (x == ("__debug__" : Str)) = false := by decide) (hcd : (x == ("__classdict__" : Str)) = false := by decide) : XV X (.Compare b [.In] [.Name x xp] pos) (vDIn f i) := (pe_cmp (pc_din hu hb (pe_var hN hv hd hcd))).weak fun σ H Q h => din_read h
theorem x_dnin (hu : X.A.units + 1 < cLine) (hN : X.N[i]? = some x) (hv : Vis X.env.scope x) (hb : XO X b f) (hd : (x == ("__debug__" : Str)) = false := by decide) (hcd : (x == ("__classdict__" : Str)) = false := by decide) : XV X (.Compare b [.NotIn] [.Name x xp] pos) (vDNin f i) := (pe_cmp (pc_dnotin hu hb (pe_var hN hv hd hcd))).weak fun σ H Q h => dnin_read h
theorem x_dinT (hu : X.A.units + 1 < cLine) (hN : X.N[i]? = some x) (hv : Vis X.env.scope x) (hb : XO X b f) (hd : (x == ("__debug__" : Str)) = false := by decide) (hcd : (x == ("__classdict__" : Str)) = false := by decide) : XT X (.Compare b [.In] [.Name x xp] pos) (IP.tB (vDIn f i)) := (pt_cmp (pc_din hu hb (pe_var hN hv hd hcd))).weak fun σ H Q ⟨G, H0, δ, res, δ', eK, R, e, q⟩ => by
  simp only [IP.tB, Option.bind_eq_some_iff] at e
  obtain ⟨⟨r, δ1⟩, e1, e2⟩ := e
  refine din_read ⟨G, H0, δ, r, δ1, eK, R, e1, fun v A H1 R1 s1 k1 => ?_⟩
  cases r with
  | new _ => cases e2
  | newD _ _ => cases e2
  | dat d =>
    cases d with
    | bool k =>
      cases e2
      cases k1
      exact ⟨_, rfl, q _ _ R1 s1⟩
    | _ => cases e2
theorem x_dninT (hu : X.A.units + 1 < cLine) (hN : X.N[i]? = some x) (hv : Vis X.env.scope x) (hb : XO X b f) (hd : (x == ("__debug__" : Str)) = false := by decide) (hcd : (x == ("__classdict__" : Str)) = false := by decide) : XT X (.Compare b [.NotIn] [.Name x xp] pos) (IP.tB (vDNin f i)) := (pt_cmp (pc_dnotin hu hb (pe_var hN hv hd hcd))).weak fun σ H Q ⟨G, H0, δ, res, δ', eK, R, e, q⟩ => by
  simp only [IP.tB, Option.bind_eq_some_iff] at e
  obtain ⟨⟨r, δ1⟩, e1, e2⟩ := e
  refine dnin_read ⟨G, H0, δ, r, δ1, eK, R, e1, fun v A H1 R1 s1 k1 => ?_⟩
  cases r with
  | new _ => cases e2
  | newD _ _ => cases e2
  | dat d =>
    cases d with
    | bool k =>
      cases e2
      cases k1
      exact ⟨_, rfl, q _ _ R1 s1⟩
    | _ => cases e2
/-- d[k] = v -/
theorem xs_dset {ky : Eo} {fv : Ev} {k v : Expr} {sp : Pos} (hu : X.A.units + 1 < cLine) (hN : X.N[i]? = some x) (hv : Vis X.env.scope x) (hk : XO X k ky) (hval : XV X v fv) (hs : swapsWith v (some (.Subscript (.Name x xp) k sp)) pos.line X.env = pure false := by rfl) (hd : (x == ("__debug__" : Str)) = false := by decide) (hcd : (x == ("__classdict__" : Str)) = false := by decide) :
    XS X (.Assign [.Subscript (.Name x xp) k sp] v pos) (sDSet i ky fv) := (ps_dput hu (pe_var hN hv hd hcd) hk hval hs).weak fun D σ H ⟨G, H0, δ, o, δ', eK, R, e, q⟩ => by
  simp only [sDSet, Option.bind_eq_some_iff] at e
  obtain ⟨⟨r, δ1⟩, e1, kvs0, e0, ⟨o1, δ2⟩, e2, e3⟩ := e
  refine ⟨G, H0, δ, r, δ1, eK, R, e1, fun w A H1 R1 u1 k1 => ?_⟩
  obtain ⟨p, ks0, s1, _, _⟩ := R1.dAt e0
  obtain ⟨A', R1', u1', k1'⟩ := R1.toD k1
  refine ⟨.ref p, s1, ?_⟩
  refine ⟨G, A', δ1, o1, δ2, eK, R1', e2, fun z B H2 R2 u2 k2 => ?_⟩
  cases o1 with
  | «at» _ => cases e3
  | val d =>
    cases d with
    | int kk =>
      simp only [Option.bind_eq_some_iff] at e3
      obtain ⟨kvs, e4, e5⟩ := e3
      split at e5
      · rename_i hl
        cases e5
        obtain ⟨p', ks, t1, t2, t3⟩ := R2.dAt e4
        rw [s1] at t1
        cases t1
        have k2' : z = .int kk := by
          cases k2
          rfl
        subst k2'
        have hl2 : ks.length < sizeLine := by
          rw [t3.len, sizeLine_eq]
          have : kvs.length < 16000000 := hl
          omega
        refine ⟨p, _, rfl, .inl ⟨ks, Sum.inl kk, t2, rfl, hl2, rfl⟩, ?_⟩
        exact q σ B _ (R2.putD (dct_at e4) s1 (relK_put (Rel.sub u2 k1') t3)) ((u1.trans u1').trans u2)
      · cases e5
    | _ => cases e3
end
end IP
namespace IP
open PySem L2
/-! ### a written dict kept in a name -/
def PAd (X : Cx) (es : List Expr) (ds : List D) : Prop := ∃ ta, PA X es ta ∧ ∀ {G : Gx} {A H : Hp} {δ : Env} {σ : L2.St} {p : Addr} {o : HO} (Q : List V → Hp → Prop), Rl G A H δ σ → H p = none →
  (∀ vs A' H', Rl G A' H' δ σ → Sub A A' → H' p = none → RelAll G.K A' vs ds → Q vs (upd H' p o)) → ta σ (upd H p o) Q
section
variable {X : Cx} {pos : Pos}
theorem pad_nil : PAd X [] [] := ⟨_, pa_nil, fun Q R hp h => h _ _ _ R (Sub.refl _) hp .nil⟩
theorem pad_cons {e : Expr} {d : D} {es : List Expr} {ds : List D} (hv : DV X e d) (hr : PAd X es ds) (hs : starEach (e :: es) X.env = (false, eval e X.env) :: starEach es X.env := by rfl) : PAd X (e :: es) (d :: ds) := by
  obtain ⟨te, v1, v2⟩ := hv
  obtain ⟨ta, r1, r2⟩ := hr
  refine ⟨_, pa_cons v1 r1 hs, ?_⟩
  intro G A H δ σ p o Q R hp q
  refine v2 _ R hp fun v A1 H1 R1 s1 hp1 k1 => ?_
  refine r2 _ R1 hp1 fun vs A2 H2 R2 s2 hp2 k2 => ?_
  exact q (v :: vs) A2 H2 R2 (s1.trans s2) hp2 (.cons (Rel.sub s2 k1) k2)
theorem dv_lstD {es : List Expr} {ds : List D} (h : PAd X es ds) (hl : ds.length ≤ 16000000 := by decide) : DV X (.List es pos) (.list ds) := by
  obtain ⟨ta, h1, h2⟩ := h
  refine ⟨_, pe_lst h1, ?_⟩
  intro G A H δ σ p o Q R hp q
  refine h2 _ R hp fun vs A1 H1 R1 s1 hp1 k1 => ?_
  refine ⟨by rw [k1.length, sizeLine_eq]; omega, fun q' hq' => ?_⟩
  have hne : p ≠ q' := fun e => by
    subst e
    rw [upd_same] at hq'
    cases hq'
  rw [upd_ne hne.symm] at hq'
  rw [upd_swap hne]
  obtain ⟨R2, s2⟩ := R1.laid0 (o := .lst vs) hq'
  exact q _ _ _ R2 (s1.trans s2) (by rw [upd_ne hne]; exact hp1) (.lst upd_same (k1.sub s2))
theorem dv_tupD {es : List Expr} {ds : List D} {k : Nat} (h : PAd X es ds) (hl : ds.length ≤ 16000000 := by decide) : DV X (.Tuple es k pos) (.tuple ds) := by
  obtain ⟨ta, h1, h2⟩ := h
  refine ⟨_, pe_tup h1, ?_⟩
  intro G A H δ σ p o Q R hp q
  refine h2 _ R hp fun vs A1 H1 R1 s1 hp1 k1 => ?_
  refine ⟨by rw [k1.length, sizeLine_eq]; omega, fun q' hq' => ?_⟩
  have hne : p ≠ q' := fun e => by
    subst e
    rw [upd_same] at hq'
    cases hq'
  rw [upd_ne hne.symm] at hq'
  rw [upd_swap hne]
  obtain ⟨R2, s2⟩ := R1.laid0 (o := .tup vs) hq'
  exact q _ _ _ R2 (s1.trans s2) (by rw [upd_ne hne]; exact hp1) (.tup upd_same (k1.sub s2))
theorem relK_zip {K : PySem.W.Frag} {A : Hp} : ∀ (kds : List (Int × D)) {vs : List V}, RelAll K A vs (kds.map Prod.snd) → RelK K A ((kds.map fun kd => (Sum.inl kd.1 : Key)).zip vs) (kds.map fun kd => (.int kd.1, kd.2))
  | [], _, .nil => .nil
  | kd :: kds, _, .cons r t => .cons r (relK_zip kds t)
theorem x_disp {keys : List (Option Expr)} {values : List Expr} {kds : List (Int × D)} {p1 : Pos} (hd : PD X p1 keys values kds) (hnd : (kds.map Prod.fst).Nodup) (h15 : kds.length ≤ 15)
    (hall : keys.all (·.isSome) = true := by rfl) (hl : keys.length = values.length := by rfl) (h0 : keys ≠ [] := by exact fun z => by cases z) (hk : keys.length ≤ 15 := by decide) : XV X (.Dict keys values p1) (vDisp kds) := by
  obtain ⟨trs, d1, d2⟩ := hd
  refine (pe_disp d1 hall hl h0 hk).weak fun σ H Q ⟨G, H0, δ, r, δ', eK, R, e, q⟩ => ?_
  cases e
  intro p hp
  refine d2 _ R hp fun vs A H1 R1 s1 hp1 k1 => ?_
  have hlen : vs.length = kds.length := by rw [relall_len k1, List.length_map]
  refine ⟨upd_same, (kds.map fun kd => (Sum.inl kd.1 : Key)).zip vs, zip_keys kds vs hlen, by simp [hlen]; exact h15, ?_⟩
  rw [upd_twice]
  have nd : (((kds.map fun kd => (Sum.inl kd.1 : Key)).zip vs).map Prod.fst).Nodup := by
    rw [List.map_fst_zip (by simp [hlen])]
    rw [show (kds.map fun kd => (Sum.inl kd.1 : Key)) = (kds.map Prod.fst).map Sum.inl by rw [List.map_map]; rfl]
    exact hnd.map (f := Sum.inl) (fun a b hab e => hab (by cases e; rfl))
  rw [merge_nd _ [] (by rw [List.nil_append]; exact nd), List.nil_append]
  have fr := R1.freshU (o := .dK ((kds.map fun kd => (Sum.inl kd.1 : Key)).zip vs)) hp1
  exact q _ _ _ (R1.laid hp1) s1 ⟨p, rfl, ⟨_, upd_same, relK_zip kds k1⟩, fr.1, fr.2.1, fr.2.2⟩
end
end IP
end
section
set_option linter.all false
/-! ISt: range(a, b, 5). -/
namespace IP
open PySem
def upD5 (lo : Int) (n : Nat) : List D := (List.range n).map fun k => .int (lo + 5 * (k : Nat))
def iStep5 (f g : Eo) : Ei := fun δ => (f δ).bind fun p => (g p.2).bind fun q => match p.1, q.1 with
  | .val (.int i), .val (.int j) => if small60 i = true ∧ small60 j = true then some ((upD5 i ((j - i + 4) / 5).toNat, none), q.2) else none
  | _, _ => none
theorem iStep5_at {f g : Eo} {δ δ1 δ2 : Env} {i j : Int} (h1 : f δ = some (.val (.int i), δ1)) (h2 : g δ1 = some (.val (.int j), δ2)) (hi : -1000000000 ≤ i ∧ i ≤ 1000000000) (hj : -1000000000 ≤ j ∧ j ≤ 1000000000) : iStep5 f g δ = some ((upD5 i ((j - i + 4) / 5).toNat, none), δ2) := by
  rw [iStep5, h1]
  simp only [Option.bind_some]
  rw [h2]
  simp only [Option.bind_some]
  rw [if_pos ⟨small60_of hi, small60_of hj⟩]
end IP
end
section
set_option Elab.async false
set_option linter.all false
set_option maxRecDepth 100000
set_option maxHeartbeats 400000
namespace IP
open PySem L2 RZ
theorem rangeSize_five (a b : Int) : Builtin.Range.rangeSize a b 5 = (((b - a + 4) / 5).toNat : Int) := by
  unfold Builtin.Range.rangeSize
  simp only [show ((5 : Int) > 0) by decide, if_true]
  split <;> omega
theorem small_five {a b : Int} (ha : -(2 ^ 60) ≤ a) (ha' : a < 2 ^ 60) (hb : -(2 ^ 60) ≤ b) (hb' : b < 2 ^ 60) : Builtin.Range.small a b 5 = true := by
  unfold Builtin.Range.small
  rw [rangeSize_five]
  simp only [Builtin.Range.rangeFitsLong, Bool.and_eq_true, Bool.or_eq_true, decide_eq_true_eq, beq_iff_eq, show ((5 : Int) > 0) by decide, if_true]
  omega
theorem rg_five {i j : Int} (hi : small60 i = true) (hj : small60 j = true) : RgC i j 5 ((j - i + 4) / 5).toNat := by
  have a := of_decide_eq_true hi
  have b := of_decide_eq_true hj
  exact ⟨by decide, by decide, small_five a.1 a.2 b.1 b.2, rangeSize_five i j⟩
section
variable {X : Cx} {K : PySem.W.Frag} {tg e e2 : Expr} {f g : Eo} {pos p : Pos}
theorem upD5_get {lo : Int} {n i : Nat} (h : i < n) : (upD5 lo n)[i]? = some (.int (lo + 5 * (i : Nat))) := by
  unfold upD5
  simp [h]
theorem upD5_length (lo : Int) (n : Nat) : (upD5 lo n).length = n := by
  unfold upD5
  simp
theorem iw_up5 {G : Gx} {H0 : Hp} {σ : L2.St} {lo : Int} {n : Nat} : IW G H0 σ (Itc lo 5 n) (upD5 lo n) none where
  goes := fun i A H δ τ R s hk st h => by
    rw [upD5_length] at h
    exact h
  stops := fun A H δ τ R s hk st => by
    rw [upD5_length]
    exact Nat.le_refl n
  yields := fun i A H δ τ x H' R s hk st h y => by
    obtain ⟨rfl, rfl⟩ := y
    rw [upD5_length] at h
    refine ⟨A, _, R, Sub.refl _, Sub.refl _, Fro.refl, upD5_get h, ?_⟩
    rw [show lo + (i : Int) * 5 = lo + 5 * (i : Int) by omega]
    exact .int _
/-- range(a, b, 5) -/
theorem xi_step5 {a b : Expr} {u : Nat} {p1 : Pos} (hg : Gl X "range") (hm : X.mg "range" = none) (ha : XO X a f) (hb : XO X b g)
    (hs : starEach [a, b, .Constant (.int 5) u p1] X.env = (false, eval a X.env) :: starEach [b, .Constant (.int 5) u p1] X.env := by rfl)
    (hs2 : starEach [b, .Constant (.int 5) u p1] X.env = (false, eval b X.env) :: starEach [.Constant (.int 5) u p1] X.env := by rfl)
    (hs3 : starEach [.Constant (.int 5) u p1] X.env = (false, eval (.Constant (.int 5) u p1) X.env) :: starEach [] X.env := by rfl)
    (h4 : (backTo pos (starEach [b, .Constant (.int 5) u p1] X.env)).any (·.1) = false := by rfl) :
    XI X tg (.Call (.Name "range" p) [a, b, .Constant (.int 5) u p1] [] pos) (iStep5 f g) :=
  (pi_range3 hg hm (pa_cons ha (pa_cons hb (pa_cons pe_int pa_nil hs3) hs2) hs) hs h4).weak fun σ H Rr ⟨G, H0, δ, xs, ow, δ', eK, R, e0, q⟩ => by
    simp only [iStep5, Option.bind_eq_some_iff] at e0
    obtain ⟨⟨o, δ1⟩, e1, ⟨o2, δ2⟩, e2, e3⟩ := e0
    refine ⟨G, H0, δ, o, δ1, eK, R, e1, fun v H0' H' R1 s1 k1 => ?_⟩
    refine ⟨G, H0', δ1, o2, δ2, eK, R1, e2, fun w A B R2 s2 k2 => ?_⟩
    cases o with
    | «at» i => cases e3
    | val d =>
      cases d with
      | int j =>
        cases o2 with
        | «at» i => cases e3
        | val d =>
          cases d with
          | int l =>
            dsimp only at e3
            split at e3
            · rename_i hj
              cases e3
              cases k1
              cases k2
              exact ⟨j, l, 5, ((l - j + 4) / 5).toNat, rfl, rg_five hj.1 hj.2, q _ _ _ R2 (s1.trans s2) iw_up5⟩
            · cases e3
          | _ => cases e3
      | _ => cases e3
end
end IP
end
section
set_option linter.all false
/-! IFn: // by any integer other than 0. -/
namespace IP
open PySem
def bFdivN : D → D → Option Res
  | .int a, .int b => if b ≠ 0 ∧ b.natAbs.log2 < 9000 then some (.dat (.int (a.fdiv b))) else none
  | _, _ => none
end IP
end
section
set_option Elab.async false
set_option linter.all false
namespace IP
open PySem L2 PySem.Spec PyProof.Rows
section
variable {X : Cx} {K : PySem.W.Frag}
def CDivZ (_ j : Int) : Prop := j ≠ 0 ∧ j.natAbs.log2 < 9000
theorem op_fdivZ : OpR X (binaryOp .FloorDiv) (rI CDivZ fun i j => .int (i.fdiv j)) := opI fun _ _ _ _ _ _ _ hc q => floordiv_int hc.1 q (.inl (PyProof.noPylong_of_log2 hc.2))
theorem s_fdivZ : OpS K (rI CDivZ fun i j => .int (i.fdiv j)) bFdivN := s_int fun a b res e => by
  cases a <;> cases b <;> simp only [bFdivN, reduceCtorEq] at e
  split at e
  · rename_i h
    cases e
    exact ⟨_, _, rfl, rfl, h, rfl⟩
  · cases e
end
end IP
end
section
set_option linter.all false
/-! IW: max and min of a list of ints, sorted of ints and of rows of ints. -/
namespace IP
open PySem
def biMaxL : List D → Option Res
  | [.list xs] => (intsOf xs).bind fun is => match is with
    | [] => none
    | i :: is => some (.dat (.int (is.foldl max i)))
  | _ => none
def biMinL : List D → Option Res
  | [.list xs] => (intsOf xs).bind fun is => match is with
    | [] => none
    | i :: is => some (.dat (.int (is.foldl min i)))
  | _ => none
/-- one row before another, as tuples go -/
def lexI : List Int → List Int → Bool
  | [], [] => false
  | [], _ :: _ => true
  | _ :: _, [] => false
  | x :: xs, y :: ys => if x = y then lexI xs ys else decide (x < y)
/-- tuples of ints, none of them empty -/
def rowsOf : List D → Option (List (List Int))
  | [] => some []
  | .tuple xs :: ds => (intsOf xs).bind fun is => if is = [] then none else (rowsOf ds).map fun L => is :: L
  | _ => none
def sortR (L : List (List Int)) : List (List Int) := L.mergeSort fun x y => !lexI y x
def sortI (L : List Int) : List Int := L.mergeSort fun x y => decide (x ≤ y)
def biSrt : List D → Option Res
  | [.list xs] => if xs.length ≤ 1 then some (.new xs) else match rowsOf xs with
    | some L => some (.new ((sortR L).map fun r => .tuple (r.map .int)))
    | none => (intsOf xs).map fun is => .new ((sortI is).map .int)
  | _ => none
/-- no list of ints: empty, or another thing at its head -/
def headNo : List D → Bool
  | .int _ :: _ => false
  | _ => true
def lentOk (δ : Env) : List Opd → Bool
  | [] => true
  | .val _ :: os => lentOk δ os
  | .at i :: os => (match δ[i]? with
    | some (.own ds) => headNo ds
    | some (.prm ds) => headNo ds
    | _ => true) && lentOk δ os
/-- a call with owned lists lent that answers a list of ints: none of those lent -/
def vCallL (c : Fnc) (f : Ea) : Ev := fun δ => (f δ).bind fun p => (rdAll p.2 p.1).bind fun ds => (c none ds).bind fun r => match r with
  | (.dat (.list (.int i :: es)), none) => if noListAll es = true ∧ lentOk p.2 p.1 = true then some (.dat (.list (.int i :: es)), p.2) else none
  | _ => none
/-- zip of a tuple and a list of one length, both data -/
def iZipM (f g : Eo) : Ei := fun δ => (f δ).bind fun p => (g p.2).bind fun q => match p.1, q.1 with
  | .val (.tuple xs), .val (.list ys) => if xs.length = ys.length then some ((zipD xs ys, none), q.2) else none
  | _, _ => none
/-- zip of two lists, two tuples, or a tuple and a list of one length -/
def iZipX (f g : Eo) : Ei := fun δ => match iZip f g δ with
  | some r => some r
  | none => iZipM f g δ
theorem iZipX_a {f g : Eo} {δ : Env} {r : (List D × Option Nat) × Env} (h : iZip f g δ = some r) : iZipX f g δ = some r := by
  unfold iZipX
  rw [h]
theorem iZipX_m {f g : Eo} {δ δ1 δ2 : Env} {xs ys : List D} (h : f δ = some (.val (.tuple xs), δ1)) (h2 : g δ1 = some (.val (.list ys), δ2)) (hl : xs.length = ys.length) : iZipX f g δ = some ((zipD xs ys, none), δ2) := by
  unfold iZipX
  have e : iZip f g δ = none := by simp [iZip, h, h2]
  rw [e]
  simp [iZipM, h, h2, hl]
def bInD : D → D → Option Res
  | x, .list ds => if SeqAt.shaped x = true ∧ SeqAt.shaped (.list ds) = true then some (.dat (.bool (ds.any fun z => PyData.eqv z x))) else none
  | _, _ => none
def bNotInD : D → D → Option Res
  | x, .list ds => if SeqAt.shaped x = true ∧ SeqAt.shaped (.list ds) = true then some (.dat (.bool (!ds.any fun z => PyData.eqv z x))) else none
  | _, _ => none
/-! ### the order is one -/
theorem lexI_iff : ∀ {x y : List Int}, lexI x y = true → lexI y x = false
  | [], [], _ => rfl
  | [], _ :: _, _ => rfl
  | _ :: _, [], h => by simp [lexI] at h
  | x :: xs, y :: ys, h => by
    unfold lexI at *
    by_cases e : x = y
    · rw [if_pos e] at h
      rw [if_pos e.symm]
      exact lexI_iff h
    · rw [if_neg e] at h
      rw [if_neg fun z => e z.symm]
      have := of_decide_eq_true h
      exact decide_eq_false (by omega)
theorem lexI_tr : ∀ {x y z : List Int}, lexI y x = false → lexI z y = false → lexI z x = false
  | [], [], _, _, h => h
  | [], _ :: _, [], h1, h2 => by simp [lexI]
  | [], y :: ys, z :: zs, h1, h2 => rfl
  | _ :: _, [], z, h1, h2 => by simp [lexI] at h1
  | x :: xs, y :: ys, [], h1, h2 => by simp [lexI] at h2
  | x :: xs, y :: ys, z :: zs, h1, h2 => by
    unfold lexI at *
    by_cases e1 : y = x
    · rw [if_pos e1] at h1
      by_cases e2 : z = y
      · rw [if_pos e2] at h2
        rw [if_pos (e2.trans e1)]
        exact lexI_tr h1 h2
      · rw [if_neg e2] at h2
        have := of_decide_eq_false h2
        rw [if_neg (by omega)]
        exact decide_eq_false (by omega)
    · rw [if_neg e1] at h1
      have a := of_decide_eq_false h1
      by_cases e2 : z = y
      · rw [if_neg (by omega)]
        exact decide_eq_false (by omega)
      · rw [if_neg e2] at h2
        have b := of_decide_eq_false h2
        rw [if_neg (by omega)]
        exact decide_eq_false (by omega)
/-- rows that neither goes before the other are one -/
theorem lexI_eq : ∀ {x y : List Int}, lexI x y = false → lexI y x = false → x = y
  | [], [], _, _ => rfl
  | [], _ :: _, h, _ => by simp [lexI] at h
  | _ :: _, [], _, h => by simp [lexI] at h
  | x :: xs, y :: ys, h1, h2 => by
    unfold lexI at *
    by_cases e : x = y
    · rw [if_pos e] at h1
      rw [if_pos e.symm] at h2
      rw [e, lexI_eq h1 h2]
    · rw [if_neg e] at h1
      rw [if_neg fun z => e z.symm] at h2
      have a := of_decide_eq_false h1
      have b := of_decide_eq_false h2
      omega
/-- two sorted rearrangements are one -/
theorem srt_uniq {α : Type} {le : α → α → Prop} (anti : ∀ x y, le x y → le y x → x = y) (refl : ∀ x, le x x) : ∀ {l m : List α}, l.Pairwise le → m.Pairwise le → l.Perm m → l = m
  | [], m, _, _, p => (List.Perm.eq_nil p.symm).symm
  | x :: l, [], _, _, p => absurd p.length_eq (by simp)
  | x :: l, y :: m, hl, hm, p => by
    have hx : le y x := by
      rcases List.mem_cons.mp (p.mem_iff.mp (List.mem_cons_self (a := x) (l := l))) with e | h
      · rw [e]; exact refl y
      · exact (List.pairwise_cons.mp hm).1 x h
    have hy : le x y := by
      rcases List.mem_cons.mp (p.mem_iff.mpr (List.mem_cons_self (a := y) (l := m))) with e | h
      · rw [e]; exact refl x
      · exact (List.pairwise_cons.mp hl).1 y h
    have e := anti x y hy hx
    subst e
    rw [srt_uniq anti refl (List.pairwise_cons.mp hl).2 (List.pairwise_cons.mp hm).2 p.cons_inv]
theorem sortR_perm (L : List (List Int)) : (sortR L).Perm L := List.mergeSort_perm _ _
theorem sortR_srt (L : List (List Int)) : (sortR L).Pairwise fun x y => lexI y x = false := by
  have := List.pairwise_mergeSort (le := fun x y : List Int => !lexI y x) (fun a b c h1 h2 => by
    simp only [Bool.not_eq_true', Bool.not_eq_eq_eq_not, Bool.not_true] at *
    exact lexI_tr h1 h2) (fun a b => by
    cases h : lexI b a with
    | false => rfl
    | true =>
      rw [lexI_iff h]
      rfl) L
  exact this.imp fun h => by simpa using h
theorem sortR_of {L M : List (List Int)} (p : M.Perm L) (s : M.Pairwise fun x y => lexI y x = false) : M = sortR L :=
  srt_uniq (fun x y h1 h2 => lexI_eq h2 h1) (fun x => by
    cases h : lexI x x with
    | false => rfl
    | true => rw [← h, lexI_iff h]) s (sortR_srt L) (p.trans (sortR_perm L).symm)
theorem sortR_same {L M : List (List Int)} (p : L.Perm M) : sortR L = sortR M := sortR_of ((sortR_perm L).trans p) (sortR_srt L)
theorem sortI_perm (L : List Int) : (sortI L).Perm L := List.mergeSort_perm _ _
theorem sortI_srt (L : List Int) : (sortI L).Pairwise (· ≤ ·) := by
  have := List.pairwise_mergeSort (le := fun x y : Int => decide (x ≤ y)) (fun a b c h1 h2 => by
    have := of_decide_eq_true h1
    have := of_decide_eq_true h2
    exact decide_eq_true (by omega)) (fun a b => by
    by_cases h : a ≤ b
    · rw [decide_eq_true h]; rfl
    · rw [decide_eq_true (show b ≤ a by omega), Bool.or_true]) L
  exact this.imp fun h => of_decide_eq_true h
theorem sortI_of {L M : List Int} (p : M.Perm L) (s : M.Pairwise (· ≤ ·)) : M = sortI L :=
  srt_uniq (fun x y h1 h2 => Int.le_antisymm h1 h2) (fun x => Int.le_refl x) s (sortI_srt L) (p.trans (sortI_perm L).symm)
/-! ### what is greatest -/
theorem fold_max : ∀ (is : List Int) (i : Int), i ≤ is.foldl max i ∧ (∀ y ∈ is, y ≤ is.foldl max i) ∧ (is.foldl max i = i ∨ is.foldl max i ∈ is)
  | [], i => ⟨Int.le_refl i, (fun _ h => (by cases h)), .inl rfl⟩
  | x :: is, i => by
    obtain ⟨a, b, c⟩ := fold_max is (max i x)
    rw [List.foldl_cons]
    refine ⟨by omega, fun y hy => ?_, ?_⟩
    · rcases List.mem_cons.mp hy with rfl | hy
      · omega
      · exact b y hy
    · rcases c with c | c
      · rcases Int.le_total i x with h | h
        · exact .inr (by rw [c, Int.max_eq_right h]; exact List.mem_cons_self ..)
        · exact .inl (by rw [c, Int.max_eq_left h])
      · exact .inr (List.mem_cons_of_mem _ c)
theorem fold_min : ∀ (is : List Int) (i : Int), is.foldl min i ≤ i ∧ (∀ y ∈ is, is.foldl min i ≤ y) ∧ (is.foldl min i = i ∨ is.foldl min i ∈ is)
  | [], i => ⟨Int.le_refl i, (fun _ h => (by cases h)), .inl rfl⟩
  | x :: is, i => by
    obtain ⟨a, b, c⟩ := fold_min is (min i x)
    rw [List.foldl_cons]
    refine ⟨by omega, fun y hy => ?_, ?_⟩
    · rcases List.mem_cons.mp hy with rfl | hy
      · omega
      · exact b y hy
    · rcases c with c | c
      · rcases Int.le_total i x with h | h
        · exact .inl (by rw [c, Int.min_eq_left h])
        · exact .inr (by rw [c, Int.min_eq_right h]; exact List.mem_cons_self ..)
      · exact .inr (List.mem_cons_of_mem _ c)
theorem max_of {m i : Int} {is : List Int} (h : m ∈ i :: is) (hle : ∀ y ∈ i :: is, y ≤ m) : is.foldl max i = m := by
  obtain ⟨a, b, c⟩ := fold_max is i
  have h1 : is.foldl max i ≤ m := by
    rcases c with c | c
    · rw [c]; exact hle i (List.mem_cons_self ..)
    · exact hle _ (List.mem_cons_of_mem _ c)
  rcases List.mem_cons.mp h with rfl | h
  · omega
  · have := b m h
    omega
theorem min_of {m i : Int} {is : List Int} (h : m ∈ i :: is) (hle : ∀ y ∈ i :: is, m ≤ y) : is.foldl min i = m := by
  obtain ⟨a, b, c⟩ := fold_min is i
  have h1 : m ≤ is.foldl min i := by
    rcases c with c | c
    · rw [c]; exact hle i (List.mem_cons_self ..)
    · exact hle _ (List.mem_cons_of_mem _ c)
  rcases List.mem_cons.mp h with rfl | h
  · omega
  · have := b m h
    omega
end IP
end
section
set_option Elab.async false
set_option linter.all false
set_option maxRecDepth 100000
set_option maxHeartbeats 400000
/-! SndZ: max and min of a list of ints; sorted of ints and of rows of ints, of any length. -/
namespace IP
open PySem L2 PySem.Spec PyProof.Rows
section
variable {prog : Program} {w : World} {A : Around} {E : Value → Shared → Prop} {s : Shared} {Q : Bool → Shared → Prop}
theorem lex_any {b : Bool} {xs ys : List Value} {ns ms : List Int} (i : Nat) (hx : IntsAre xs ns) (hy : IntsAre ys ms)
    (h : Q (lexI ns ms) s) : PySem.W.KatLex prog w A b (decide (ns.length < ms.length)) Q (xs.zip ys) i s := by
  induction hx generalizing ys ms i with
  | nil =>
    cases hy with
    | nil => exact PySem.W.kat_nil h
    | cons q u hy =>
      refine PySem.W.kat_nil ?_
      rw [decide_eq_true (by simp)]
      exact h
  | @cons p t xs ns hx ih =>
    cases hy with
    | nil =>
      refine PySem.W.kat_nil ?_
      rw [decide_eq_false (by simp)]
      exact h
    | @cons q u ys ms hy =>
      show PySem.W.KatLex prog w A b _ Q ((Value.int p t, Value.int q u) :: xs.zip ys) i s
      rw [show decide ((p :: ns).length < (q :: ms).length) = decide (ns.length < ms.length) by simp]
      refine PySem.W.kat_cons (wpAny_eqBool_int ?_)
      unfold lexI at h
      by_cases e : p = q
      · subst e
        rw [beq_self_eq_true]
        rw [if_pos rfl] at h
        exact PySem.W.kat_yes (ih (i + 1) hy h)
      · rw [show (p == q) = false from beq_eq_false_iff_ne.mpr e]
        rw [if_neg e] at h
        exact PySem.W.kat_no (TS.oneLt_ints _ h)
theorem firsts_any {h : Heap} : ∀ vs : List Value, (∀ v ∈ vs, ∃ ns, TS.TupInts h v ns ∧ ns ≠ []) → ∃ fs, PySem.W.KatTups h vs fs ∧ fs.length = vs.length ∧ ∀ f, f ∈ fs → ∃ n t, f = Value.int n t
  | [], _ => ⟨[], PySem.W.KatTups.nil, rfl, fun f hf => by simp at hf⟩
  | v :: vs, x => by
    obtain ⟨fs, k, hl, hi⟩ := firsts_any vs fun u hu => x u (List.mem_cons_of_mem _ hu)
    obtain ⟨ns, ⟨a, xs, rfl, ⟨o, ho, hc, n, hdt⟩, i⟩, hn⟩ := x v (List.mem_cons_self ..)
    obtain ⟨y, ys, e⟩ : ∃ y ys, xs.toList = y :: ys := by
      cases q : xs.toList with
      | nil =>
        rw [q] at i
        have l := i.length
        rw [List.length_nil] at l
        exact absurd (List.eq_nil_of_length_eq_zero (by omega)) hn
      | cons y ys => exact ⟨y, ys, rfl⟩
    obtain ⟨m, t, hy⟩ := i.all y (by rw [e]; exact List.mem_cons_self ..)
    refine ⟨y :: fs, PySem.W.KatTups.cons ho hc hdt ?_ k, by simp [hl], ?_⟩
    · have z := congrArg (fun l : List Value => l[0]?) e
      simpa using z
    · intro f hf
      rcases List.mem_cons.mp hf with rfl | hf
      · exact ⟨m, t, hy⟩
      · exact hi f hf
theorem rows_cmp {h0 : Heap} {vs : List Value} (hp : ∀ v ∈ vs, TS.TupInts s.heap v (TS.intsOf h0 v)) : SrtO.Cmp prog w A s (tuples' true) (fun p => p.1 ∈ vs) (SrtO.lt2 fun v u => lexI (TS.intsOf h0 v) (TS.intsOf h0 u)) := by
  intro p q hm hm'
  have h1 := hp _ hm
  have h2 := hp _ hm'
  show wpAny (model prog w) A (keyLt' (tuples' true) p.1 q.1) (fun r s' => s' = s ∧ r = lexI (TS.intsOf h0 p.1) (TS.intsOf h0 q.1)) (fun _ _ => False) s
  generalize TS.intsOf h0 p.1 = ns at *
  generalize TS.intsOf h0 q.1 = ms at *
  obtain ⟨a, xs, e1, ⟨o, ho, hc, n, hdt⟩, i⟩ := h1
  obtain ⟨a', ys, e2, ⟨o', ho', hc', n', hdt'⟩, i'⟩ := h2
  rw [e1, e2]
  refine PySem.W.kat_lt ho hdt ho' hdt' ?_
  have sz : decide (xs.size < ys.size) = decide (ns.length < ms.length) := by
    have l1 := i.length
    have l2 := i'.length
    rw [Array.length_toList] at l1 l2
    rw [l1, l2]
  rw [sz]
  exact lex_any 0 i i' ⟨rfl, rfl⟩
theorem rows_sortable {h0 : Heap} {a : Addr} {vs : List Value} (h2 : 2 ≤ vs.length) (hp : ∀ v ∈ vs, TS.TupInts s.heap v (TS.intsOf h0 v) ∧ TS.intsOf h0 v ≠ []) (ha : ∀ o, s.heap.get? a = some o → o.cls ≠ .type "tuple") : SrtO.SortableO prog w A s a vs fun v u => lexI (TS.intsOf h0 v) (TS.intsOf h0 u) := by
  intro h' keep
  have hp' : ∀ v ∈ vs, TS.TupInts h' v (TS.intsOf h0 v) := fun v hm => (hp v hm).1.keeps fun b o e c => keep b o (fun z => by subst z; exact ha o e c) e
  obtain ⟨fs, h1, hl, h3⟩ := firsts_any (h := h') vs fun v hm => ⟨_, hp' v hm, (hp v hm).2⟩
  refine ⟨tuples' true, fun Q E hq => ?_, rows_cmp hp'⟩
  refine PySem.W.kat_kind (T := .type "int") h1 (by omega) (fun f hm => ?_) (by rfl) ?_
  · obtain ⟨x, t, rfl⟩ := h3 f hm
    exact PySem.W.Looks.of_pure rfl
  · exact hq
theorem swo_rows (h0 : Heap) : SrtO.Swo fun v u => lexI (TS.intsOf h0 v) (TS.intsOf h0 u) :=
  ⟨fun _ _ h => lexI_iff h, fun _ _ _ h1 h2 => lexI_tr h1 h2⟩
end
section
variable {X : Cx}
def rSrtR (K : PySem.W.Frag) : List V → Hp → VK → Prop := fun vs H Q => ∃ (a : Addr) (xs : List V), vs = [V.ref a] ∧ SqL K H a xs ∧ (∀ x ∈ xs, ∃ ns, TupI K H x ns ∧ ns ≠ []) ∧
  ∀ (ys : List V) (p : Addr), ys.Perm xs → ys.Pairwise (fun x y => ∀ n m, TupI K H x n → TupI K H y m → lexI m n = false) → H p = none → Q (.ref p) (upd H p (.lst ys))
theorem cr_srtR : CallR X (.builtin "sorted") (rSrtR X.K) := by
  intro pins s σ H vs us Q I r h
  obtain ⟨a, xs, rfl, hs, hx, q⟩ := h
  obtain ⟨its, rv, hl, hz⟩ := I.list hs
  rw [Vals.ref1 r]
  obtain ⟨e1, e2⟩ := bkV_refs rv fun x m => by
    obtain ⟨ns, ⟨t, e, _⟩, _⟩ := hx x m
    exact ⟨t, e⟩
  have ht : ∀ v ∈ its, TS.TupInts s.heap v (TS.intsOf s.heap v) ∧ TS.intsOf s.heap v ≠ [] := fun v hv => by
    obtain ⟨t, rfl⟩ := e2 v hv
    have hm : V.ref t ∈ xs := by
      rw [e1]
      exact List.mem_map.mpr ⟨_, hv, rfl⟩
    obtain ⟨ns, ⟨t', e, ht⟩, hn⟩ := hx _ hm
    cases e
    have h1 := tupI_raw I ht
    rw [h1.ints]
    exact ⟨h1, hn⟩
  refine SrtO.sorted_ord (swo_rows s.heap) hl.isList (by rw [← rv.length]; exact hz) (fun h2 h₁ b hb kk => ?_) fun out h1 h2 => ?_
  · refine rows_sortable (s := { s with heap := h₁ }) h2 (fun v hm => ⟨(ht v hm).1.keeps fun c o e _ => (kk c o e).2, (ht v hm).2⟩) fun o e => ?_
    have e' : some o = some (seqObj "list" its.toArray 0) := e.symm.trans hb
    cases e'
    intro c
    exact absurd (Value.type.inj c) (by decide)
  · obtain ⟨ep, he'⟩ := PyProof.Rows.sortedAll_at s.heap its out.toArray
    have h3 : ∀ u ∈ out, ∃ a, u = Value.ref a := fun u hu => e2 u (h2.perm.mem_iff.mp hu)
    have hp : (out.map bkV).Perm xs := by
      rw [e1]
      exact h2.perm.map bkV
    have hlen : (out.map bkV).length ≤ sizeLine := by
      rw [hp.length_eq]
      exact hz
    refine ⟨.ref _, upd H (s.heap.objs.size + 1) (.lst (out.map bkV)), I.laid (t' := s.toks) (fun _ _ => PyProof.Rows.sortedAll_old) (Nat.le_succ _) ⟨hlen, out, ep, bkV_vals h3, he'⟩, rfl, q _ _ hp ?_ (I.hok.fresh (Nat.le_succ _))⟩
    rw [List.pairwise_map]
    refine List.Pairwise.imp (fun {u v} huv n m hn hm => ?_) h1
    obtain ⟨t, et, ht⟩ := hn
    obtain ⟨t', et', ht'⟩ := hm
    have eu := bkV_ref et
    have ev := bkV_ref et'
    have i1 : TS.intsOf s.heap u = n := by
      rw [eu]
      exact (tupI_raw I ht).ints
    have i2 : TS.intsOf s.heap v = m := by
      rw [ev]
      exact (tupI_raw I ht').ints
    rw [← i1, ← i2]
    exact huv
end
section
variable {X : Cx}
def rSrt (K : PySem.W.Frag) : List V → Hp → VK → Prop := fun vs H Q => rSortO K vs H Q ∨ rSrtR K vs H Q ∨ rSortedI K vs H Q
theorem cr_srt (hc : X.calm = true) : CallR X (.builtin "sorted") (rSrt X.K) := by
  intro pins s σ H vs us Q I r h
  rcases h with h | h | h
  · exact cr_srtO hc pins s σ H vs us Q I r h
  · exact cr_srtR pins s σ H vs us Q I r h
  · exact cr_sortedI pins s σ H vs us Q I r h
end
section
variable {K : PySem.W.Frag} {A : Hp}
theorem ints_eq : ∀ {ds : List D} {is : List Int}, intsOf ds = some is → ds = is.map .int
  | [], is, h => by
    simp [intsOf] at h
    subst h
    rfl
  | .int i :: ds, is, h => by
    simp only [intsOf, Option.map_eq_some_iff] at h
    obtain ⟨js, h1, rfl⟩ := h
    rw [ints_eq h1]
    rfl
  | .none :: _, _, h => by simp [intsOf] at h
  | .bool _ :: _, _, h => by simp [intsOf] at h
  | .str _ :: _, _, h => by simp [intsOf] at h
  | .list _ :: _, _, h => by simp [intsOf] at h
  | .tuple _ :: _, _, h => by simp [intsOf] at h
  | .dict _ :: _, _, h => by simp [intsOf] at h
theorem rows_eq : ∀ {ds : List D} {L : List (List Int)}, rowsOf ds = some L → ds = L.map (fun r => .tuple (r.map .int)) ∧ ∀ r ∈ L, r ≠ []
  | [], L, h => by
    simp [rowsOf] at h
    subst h
    exact ⟨rfl, fun r h => by cases h⟩
  | .tuple xs :: ds, L, h => by
    simp only [rowsOf, Option.bind_eq_some_iff] at h
    obtain ⟨is, h1, h2⟩ := h
    split at h2
    · cases h2
    · rename_i hn
      simp only [Option.map_eq_some_iff] at h2
      obtain ⟨M, h3, rfl⟩ := h2
      obtain ⟨e, n⟩ := rows_eq h3
      refine ⟨by rw [ints_eq h1, e]; rfl, fun r hr => ?_⟩
      rcases List.mem_cons.mp hr with rfl | hr
      · exact hn
      · exact n r hr
  | .none :: _, _, h => by simp [rowsOf] at h
  | .bool _ :: _, _, h => by simp [rowsOf] at h
  | .str _ :: _, _, h => by simp [rowsOf] at h
  | .list _ :: _, _, h => by simp [rowsOf] at h
  | .int _ :: _, _, h => by simp [rowsOf] at h
  | .dict _ :: _, _, h => by simp [rowsOf] at h
abbrev tupD (r : List Int) : D := .tuple (r.map .int)
theorem intsOf_m : ∀ is : List Int, intsOf (is.map .int) = some is
  | [] => rfl
  | i :: is => by simp [intsOf, intsOf_m is]
theorem rel_tupI {v : V} {r : List Int} (h : Rel K A v (tupD r)) : TupI K A v r := by
  generalize e : tupD r = d at h
  cases h <;> first | (cases e; done) | skip
  rename_i a xs ds h1 h2
  cases e
  have := h2.ints (intsOf_m r)
  subst this
  exact ⟨a, rfl, SqT.of h1⟩
theorem all_perm : ∀ {ys xs : List V}, ys.Perm xs → ∀ {L : List (List Int)}, RelAll K A xs (L.map tupD) → ∃ M : List (List Int), M.Perm L ∧ RelAll K A ys (M.map tupD) := by
  intro ys xs p
  induction p with
  | nil =>
    intro L h
    cases L with
    | nil => exact ⟨[], .refl _, .nil⟩
    | cons a L => cases h
  | cons x p ih =>
    intro L h
    cases L with
    | nil => cases h
    | cons a L =>
      cases h with
      | cons r t =>
        obtain ⟨M, m1, m2⟩ := ih t
        exact ⟨a :: M, m1.cons a, .cons r m2⟩
  | swap x y l =>
    intro L h
    match L, h with
    | a :: b :: L, .cons r (.cons r2 t) => exact ⟨b :: a :: L, .swap _ _ _, .cons r2 (.cons r t)⟩
  | trans p q ih1 ih2 =>
    intro L h
    obtain ⟨M, m1, m2⟩ := ih2 h
    obtain ⟨N, n1, n2⟩ := ih1 m2
    exact ⟨N, n1.trans m1, n2⟩
theorem all_mem : ∀ {ys : List V} {L : List (List Int)}, RelAll K A ys (L.map tupD) → ∀ r ∈ L, ∃ y ∈ ys, TupI K A y r
  | _, [], _, r, h => by cases h
  | _, a :: L, .cons q t, r, h => by
    rcases List.mem_cons.mp h with rfl | h
    · exact ⟨_, List.mem_cons_self .., rel_tupI q⟩
    · obtain ⟨y, y1, y2⟩ := all_mem t r h
      exact ⟨y, List.mem_cons_of_mem _ y1, y2⟩
theorem all_pair {B : Hp} (s : Sub A B) : ∀ {ys : List V} {L : List (List Int)}, RelAll K A ys (L.map tupD) → ys.Pairwise (fun x y => ∀ n m, TupI K B x n → TupI K B y m → lexI m n = false) → L.Pairwise fun x y => lexI y x = false
  | _, [], _, _ => .nil
  | _, a :: L, .cons q t, h => by
    obtain ⟨h1, h2⟩ := List.pairwise_cons.mp h
    have up : ∀ {v r}, TupI K A v r → TupI K B v r := fun ⟨t, e, z⟩ => ⟨t, e, SqT.sub s z⟩
    refine List.pairwise_cons.mpr ⟨fun b hb => ?_, all_pair s t h2⟩
    obtain ⟨y, y1, y2⟩ := all_mem t b hb
    exact h1 y y1 a b (up (rel_tupI q)) (up y2)
theorem all_ints : ∀ is : List Int, RelAll K A (is.map V.int) (is.map .int)
  | [] => .nil
  | i :: is => .cons (.int i) (all_ints is)
theorem s_srt : BiS K (rSrt K) biSrt := by
  intro G H0 H δ σ vs ds res eK R r e Q q
  subst eK
  unfold biSrt at e
  split at e
  · rename_i ds'
    obtain ⟨v, rfl, h⟩ := one r
    obtain ⟨a, xs, rfl, h1, h2⟩ := relT_list R.sub h
    split at e
    · rename_i hi
      cases e
      refine .inl ⟨a, xs, rfl, SqL.of h1, by rw [h2.length]; exact hi, fun p hn => ?_⟩
      have f := R.freshI hn
      exact q _ _ _ (R.laid hn) (Sub.refl _) ⟨p, _, rfl, upd_same, h2, f.1, f.2.1, f.2.2⟩
    · split at e
      · rename_i L hL
        cases e
        obtain ⟨e0, hn0⟩ := rows_eq hL
        subst e0
        have up : ∀ {v r}, TupI G.K H0 v r → TupI G.K H v r := fun ⟨t, e, z⟩ => ⟨t, e, SqT.sub R.sub z⟩
        refine .inr (.inl ⟨a, xs, rfl, SqL.of h1, fun x hx => ?_, fun ys p pm pw hn => ?_⟩)
        · have key : ∀ {ys : List V} {L : List (List Int)}, RelAll G.K H0 ys (L.map tupD) → ∀ y ∈ ys, ∃ r ∈ L, TupI G.K H0 y r := by
            intro ys L
            induction L generalizing ys with
            | nil => intro h y hy; cases h; cases hy
            | cons b L ih =>
              intro h y hy
              cases h with
              | cons q t =>
                rcases List.mem_cons.mp hy with rfl | hy
                · exact ⟨b, List.mem_cons_self .., rel_tupI q⟩
                · obtain ⟨r, r1, r2⟩ := ih t y hy
                  exact ⟨r, List.mem_cons_of_mem _ r1, r2⟩
          obtain ⟨r, r1, r2⟩ := key h2 x hx
          exact ⟨r, up r2, hn0 r r1⟩
        · obtain ⟨M, m1, m2⟩ := all_perm pm h2
          have ms := all_pair R.sub m2 pw
          have em := sortR_of m1 ms
          rw [em] at m2
          have f := R.freshI hn
          exact q _ _ _ (R.laid hn) (Sub.refl _) ⟨p, _, rfl, upd_same, m2, f.1, f.2.1, f.2.2⟩
      · simp only [Option.map_eq_some_iff] at e
        obtain ⟨is, e1, rfl⟩ := e
        obtain rfl := h2.ints e1
        refine .inr (.inr ⟨a, is, rfl, SqL.of h1, fun ns' p pm pw hn => ?_⟩)
        have em := sortI_of pm pw
        rw [em]
        have f := R.freshI hn
        exact q _ _ _ (R.laid hn) (Sub.refl _) ⟨p, _, rfl, upd_same, all_ints _, f.1, f.2.1, f.2.2⟩
  · cases e
theorem room65 {k : Nat} {A : Around} (r : Room k A) : A.units + 65 < cLine := by
  have := r.un
  omega
theorem s_inD : OpS K (rInD K) bInD := by
  intro G H0 H δ σ x y dx dy res eK R rx ry e Q q
  subst eK
  unfold bInD at e
  split at e
  · split at e
    · rename_i h
      cases e
      exact ⟨_, _, relT_dp R.sub rx h.1, relT_dp R.sub ry h.2, h.1, h.2, q _ _ _ R (Sub.refl _) (.bl _)⟩
    · cases e
  · cases e
theorem s_notInD : OpS K (rNotInD K) bNotInD := by
  intro G H0 H δ σ x y dx dy res eK R rx ry e Q q
  subst eK
  unfold bNotInD at e
  split at e
  · split at e
    · rename_i h
      cases e
      exact ⟨_, _, relT_dp R.sub rx h.1, relT_dp R.sub ry h.2, h.1, h.2, q _ _ _ R (Sub.refl _) (.bl _)⟩
    · cases e
  · cases e
/-! ### max and min of a list -/
theorem s_maxL : BiS K (rMax K) biMaxL := by
  intro G H0 H δ σ vs ds res eK R r e Q q
  subst eK
  unfold biMaxL at e
  split at e
  · simp only [Option.bind_eq_some_iff] at e
    obtain ⟨is, e1, e2⟩ := e
    obtain ⟨v, rfl, h⟩ := one r
    obtain ⟨p, xs, rfl, h1, h2⟩ := relT_list R.sub h
    obtain rfl := h2.ints e1
    split at e2
    · cases e2
    · rename_i i is
      cases e2
      refine ⟨p, i :: is, rfl, SqL.of h1, by simp, fun m hm hle => ?_⟩
      rw [← max_of hm hle]
      exact q _ _ _ R (Sub.refl _) (.int _)
  · cases e
theorem s_minL : BiS K (rMin K) biMinL := by
  intro G H0 H δ σ vs ds res eK R r e Q q
  subst eK
  unfold biMinL at e
  split at e
  · simp only [Option.bind_eq_some_iff] at e
    obtain ⟨is, e1, e2⟩ := e
    obtain ⟨v, rfl, h⟩ := one r
    obtain ⟨p, xs, rfl, h1, h2⟩ := relT_list R.sub h
    obtain rfl := h2.ints e1
    split at e2
    · cases e2
    · rename_i i is
      cases e2
      refine ⟨p, i :: is, rfl, SqL.of h1, by simp, fun m hm hle => ?_⟩
      rw [← min_of hm hle]
      exact q _ _ _ R (Sub.refl _) (.int _)
  · cases e
end
end IP
end
section
set_option linter.all false
/-! IMk: min(xs, key=f), f a def that answers ints. -/
namespace IP
open PySem
/-- the keys -/
def keysOf (c : Fnc) : List D → Option (List Int)
  | [] => some []
  | d :: ds => match c none [d] with
    | some (.dat (.int k), none) => (keysOf c ds).map (k :: ·)
    | _ => none
/-- the place of the first least -/
def leastAt (ks : List Int) : Nat → Nat
  | 0 => 0
  | k + 1 => if ks.getD (k + 1) 0 < ks.getD (leastAt ks k) 0 then k + 1 else leastAt ks k
def vMinK (c : Fnc) (f : Eo) : Ev := fun δ => (f δ).bind fun p => (rd p.2 p.1).bind fun d => match d with
  | .list ds => (keysOf c ds).bind fun ks => (ds[leastAt ks (ds.length - 1)]?).map fun d => (.dat d, p.2)
  | _ => none
end IP
end
section
set_option Elab.async false
set_option linter.all false
set_option maxRecDepth 100000
set_option maxHeartbeats 1000000
/-! SndMK: min(xs, key=f), f a def of the module. -/
namespace L2
open PySem PySem.Spec PyProof.Rows
theorem room_in1 {k : Nat} {A : Around} (r : Room k A.in1) : Room k A := ⟨r.hd, r.dp, by have := r.un; have e : A.in1.units = A.units + 1 := rfl; omega⟩
theorem deeper_in1 {k : Nat} {A : Around} (r : Room (k + 1) A) (env : Env) : Room k (A.deeper env).in1 :=
  ⟨r.hd, by have := r.dp; show A.depth + 1 + 3 * k + 5 < _; omega, by have := r.un; show A.units + 3 + 1 + 16 * k + 200 < _; omega⟩
/-- a def whose body calls defs from within a builtin's call -/
theorem ok_in1 {CX : CXT} {P : Program} {w : World} {K : PySem.W.Frag} {mg : Str → Option Value} {base : Heap} {x qual : Str} {params : Arguments} {body : List Stmt} {scope : Scope} {dvs : List V} {kws : List (Str × V)} {f : Addr} {fd : FuncData} {N ps : List Str} {k : Nat} {sp : Sp}
    (F : FunD K x qual params body scope dvs kws f fd) (S : FnScope N ps scope) (len : ∀ vs H Q E, sp vs H Q E → vs.length = ps.length)
    (hbody : ∀ (cdv : Value) (A : Around) (outer : List Env) (s : Shared) (H : Hp) (vs : List V) (Q : VK) (E : XK), Room k (A.deeper (envOfC qual scope s.heap.objs.size f cdv)).in1 → sp vs H Q E →
      ∃ t, PSs (cxOf CX P w K mg base N qual scope f cdv A outer s H E) body t ∧ t { nx := fun _ H' => Q .non H', rt := Q } (start N vs) H) : FnOk P w K mg base CX (k + 1) f fd ps sp := by
  obtain ⟨oc, od, dV, kV, doc, pm, an, cdv, ct, osl, rfl, lk, hcd, _, _⟩ := F.ex
  refine ⟨len, fun A outer s H args us vs Q E hr e0 hb r hsp => ?_⟩
  have hl := len _ _ _ _ hsp
  have KX : K.In s.heap := e0.mod.kin.keeps fun b o e => (e0.bs b o e).1
  have lim : s.heap.NoLimit := e0.mod.nolimit.keeps fun b o e => (e0.bs b o e).1
  refine codeAny_call_function hr.depth (KX _ _ lk) rfl S.co S.gen rfl (PySem.W.codeRec_of KX hcd) (hb _ _ _ _ ?_)
  refine wpAny_newFunctionEnv_cells S.kind (fun y hy => ?_) fun env he s1 x => ?_
  · rcases S.par y.1 (List.of_mem_zip hy).1 with q | q
    · exact .inl q
    · exact .inr ⟨q, PySem.W.cellsFrom_some _ _ _ (.inl q)⟩
  · subst he
    refine ⟨lim.keeps x.toInCall.keep, codeAny_func ?_⟩
    obtain ⟨t, ht, hq⟩ := hbody cdv A outer s H vs Q E (deeper_in1 hr _) hsp
    have I : Inv (cxOf CX P w K mg base N qual scope f cdv A outer s H E) [] (start N vs) H s1 := inv_start S hr.hd e0 hl r x
    have fin : ∀ {σ' : St} {H' : Hp} {v : V} {u : Value} {s' : Shared}, Inv (cxOf CX P w K mg base N qual scope f cdv A outer s H E) [] σ' H' s' → RelV v u → Q v H' → CE outer P w H s Q u s' := fun J rv q => ⟨_, _, J.os, J.bare, J.base, J.hok, rv, q⟩
    refine wpAny_mono (ht.run [] s1 (start N vs) H _ I hq) (fun fl s' hs => ?_) fun e s' hs => hs
    cases fl with
    | ret u =>
      obtain ⟨v, σ', H', J, rv, q⟩ := hs
      exact fin J rv q
    | next =>
      obtain ⟨σ', H', J, q⟩ := hs
      exact fin (v := V.non) (u := Value.none) J rfl q
    | brk => exact hs.elim fun _ h => h.elim fun _ h => h.2.elim
    | cont => exact hs.elim fun _ h => h.elim fun _ h => h.2.elim
abbrev ltK (ks : Nat → Int) (i j : Nat) : Bool := decide (ks i < ks j)
def rMinKey (K : PySem.W.Frag) (f : Addr) (sp : Sp) : List V → List V → Hp → VK → Prop := fun vs zs H Q => ∃ (l : Addr) (xs : List V) (ks : Nat → Int) (Good : Hp → Prop), vs = [V.ref l] ∧ zs = [V.ref f] ∧ 0 < xs.length ∧ Good H ∧ (∀ H', Good H' → SqL K H' l xs) ∧
  (∀ i x H', xs[i]? = some x → Good H' → sp [x] H' (fun u H'' => u = .int (ks i) ∧ Good H'') E0) ∧ ∀ H' x, Good H' → xs[argBest (ltK ks) (xs.length - 1)]? = some x → Q x H'
theorem vals_at {xs : List V} {us : List Value} (h : Vals xs us) {i : Nat} {u : Value} (hu : us[i]? = some u) : ∃ x, xs[i]? = some x ∧ RelV x u := by
  induction h generalizing i with
  | nil => cases hu
  | cons r t ih =>
    cases i with
    | zero =>
      cases hu
      exact ⟨_, rfl, r⟩
    | succ i => exact ih hu
section
variable {X : Cx} {k : Nat} {f : Addr} {fd : FuncData} {p1 : Str} {sp : Sp}
/-- the walk of a list that stays what it is -/
abbrev StK (xs : List V) (I l : Addr) (i : Nat) (s : Shared) : Prop := s.heap.IsListIter I l i ∧ ∃ its : Array Value, s.heap.IsList l its ∧ its.size = xs.length ∧ Vals xs its.toList
theorem walks_kept {prog : Program} {w : World} {A : Around} (hh : A.handled = none) {xs : List V} {I l : Addr} (hne : l ≠ I) : WalksS prog w A I [I, l] [I] (fun a b => b = a) xs.length (fun i v => ∃ x, xs[i]? = some x ∧ RelV x v) (StK xs I l) where
  sub := fun b hb => by simp at hb; simp [hb]
  grefl := fun _ => rfl
  gtrans := fun _ _ _ h1 h2 => h2.trans h1
  frame := fun i s h' tk st _ hk => ⟨st.1.at fun o e => hk I (by simp) o e, by
    obtain ⟨its, q1, q2, q3⟩ := st.2
    exact ⟨its, q1.at fun o e => hk l (by simp) o e, q2, q3⟩⟩
  item := fun i s Q E hi st hQ => by
    obtain ⟨its, q1, q2, q3⟩ := st.2
    exact (Walks.list (prog := prog) (w := w) (A := A) hh I l hne its).toS.item i s Q E (by omega) ⟨st.1, q1⟩ fun v s' hv st' hm => hQ v s' (vals_at q3 (by simpa using hv)) ⟨st'.1, its, st'.2, q2, q3⟩ hm
  done := fun s Q E st hQ => by
    obtain ⟨its, q1, q2, q3⟩ := st.2
    exact (Walks.list (prog := prog) (w := w) (A := A) hh I l hne its).toS.done s Q E (by rw [q2]; exact ⟨st.1, q1⟩) fun s' hm => hQ s' hm
  self := fun i s Q E st hQ => by
    obtain ⟨its, q1, q2, q3⟩ := st.2
    exact (Walks.list (prog := prog) (w := w) (A := A) hh I l hne its).self i s Q E ⟨st.1, q1⟩ hQ
theorem crk_minK (F : FnOk X.prog X.w X.K X.mg X.base CX0 k f fd [p1] sp) (hr : Room k X.A.in1) (hb : Binds X.K fd [p1] []) : CallRK X (.builtin "min") ["key"] (rMinKey X.K f sp) := by
  intro pins s σ H vs zs us ws Q I rx rz h
  obtain ⟨l, xs, ks, Good, rfl, rfl, h0, hg, hsq, hsp, q⟩ := h
  cases rx with
  | cons r1 rx =>
    cases rx
    cases r1
    cases rz with
    | cons r2 rz =>
      cases rz
      cases r2
      obtain ⟨its, ru, pu, _⟩ := I.list (hsq H hg)
      have l1 := ru.length
      have hl : l < s.heap.objs.size := by
        obtain ⟨_, e, _⟩ := pu.isList
        exact Heap.lt_size e
      have hh : X.A.in1.handled = none := hr.hd
      refine call_min_walkK (A := X.A) (wpAny_pyIter_list pu.isList ?_)
      let It := s.heap.objs.size
      let S := (s.heap.push { cls := .type "list_iterator", data := .fields #[.ref l, .int 0 0] }).objs.size
      have eS : S = It + 1 := by show (s.heap.push _).objs.size = _; simp [Heap.push, It]
      have fI : FpOk X pins H It := I.fpOk (Nat.le_refl _) (I.hok.fresh (Nat.le_refl _))
      have fS : FpOk X pins H S := I.fpOk (by rw [eS]; exact Nat.le_succ _) (I.hok.fresh (by rw [eS]; exact Nat.le_succ _))
      refine ⟨It, [It, l], [It], fun a b => b = a, xs.length, fun i v => ∃ x, xs[i]? = some x ∧ RelV x v, StK xs It l, fun s' => ∃ H', Inv X pins σ H' s' ∧ Good H' ∧ FpOk X pins H' It ∧ FpOk X pins H' S, fun i v s' => ∃ t, v = .int (ks i) t, ltK ks, rfl, walks_kept hh (Nat.ne_of_lt hl), ?_, ?_, h0, ?_, ?_, ?_⟩
      · exact ⟨⟨_, Heap.get?_push_size _ rfl, rfl, rfl⟩, its.toArray, pu.isList.push _, by simpa using l1.symm, by simpa using ru⟩
      · intro b hb
        rcases List.mem_cons.mp hb with rfl | hb
        · show It < S
          rw [eS]
          exact Nat.lt_succ_self _
        · rw [List.mem_singleton.mp hb]
          show l < S
          rw [eS]
          exact Nat.lt_succ_of_lt hl
      · refine ⟨fun s1 s2 ⟨H', J, g, f1, f2⟩ m => ?_, fun i v s1 s2 hv _ => hv, ?_, ?_⟩
        · have J2 := J.turnedL (h' := s2.heap) (t' := s2.toks) (ch := [S, It]) m.heap fun b hb => by
            rcases List.mem_cons.mp hb with rfl | hb
            · exact f2
            · rw [List.mem_singleton.mp hb]
              exact f1
          have e : s2 = { s1 with heap := s2.heap, toks := s2.toks } := by
            have e1 := m.gens
            have e2 := m.drawn
            have e3 := m.os
            cases s1
            cases s2
            simp only at e1 e2 e3
            rw [e1, e2, e3]
          rw [e]
          exact ⟨H', J2, g, f1, f2⟩
        · intro i v s1 o Q2 E2 hi ⟨x, hx, rv⟩ ⟨H', J, g, f1, f2⟩ st hS hq
          have r2 : Vals [x] [v] := .cons rv .nil
          refine wpAny_call (codeAny_mono (F.run X.A.in1 X.stack s1 H' ⟨[v], []⟩ [v] [x] _ E0 hr J.env0.in1 (hb s1 [v] J.kIn rfl) r2 (hsp i x H' hx g)) fun r s2 hres => ?_)
          cases r with
          | error e => exact hres.elim
          | ok fl =>
            cases fl with
            | ret u =>
              obtain ⟨v2, H2, os, bare, un, hok, rel, e2, g2⟩ := hres
              subst e2
              have J2 : Inv X pins σ H2 s2 := J.call' os un hok bare fun b z => absurd z (by simp)
              have ft : ∀ b o, s1.heap.get? b = some o → FpOk X pins H' b → FpOk X pins H2 b := fun b o e ⟨n1, n2⟩ => ⟨un.free b o e n1 (by simp), n2⟩
              have nf : ∀ b, FpOk X pins H' b → b ∉ frs X.stack := fun b fb z => (List.mem_cons.mp (J.stkSub b z)).elim fb.2.1 fb.2.2.1
              obtain ⟨oI, eI, rI⟩ := id st.1
              have kI := un.keep It oI eI f1.1 (nf _ f1) (by simp)
              have kS := un.keep S o hS f2.1 (nf _ f2) (by simp)
              obtain ⟨its2, ru2, pu2, _⟩ := J2.list (hsq H2 g2)
              exact hq u s2 ⟨H2, J2, g2, ft _ _ eI f1, ft _ _ hS f2⟩ ⟨⟨oI, kI, rI⟩, its2.toArray, pu2.isList, by simpa using ru2.length.symm, by simpa using ru2⟩ kS rel fun j k' z => z
            | next => exact hres.elim
            | brk => exact hres.elim
            | cont => exact hres.elim
        · intro i j ki kj s1 Q2 E2 _ ⟨t1, e1⟩ ⟨t2, e2⟩ hq
          subst e1 e2
          exact PyProof.Rows.lt_int hq
      · exact ⟨H, I.kept (t' := s.toks) (fun b o e => Heap.get?_push_of_some _ e), hg, fI, fS⟩
      · rintro v s' ⟨x, hx, rv⟩ ⟨H', J, g, _, _⟩
        exact ⟨x, H', J, rv, q H' x g hx⟩
end
end L2
namespace IP
open PySem L2 PySem.Spec PyProof.Rows
theorem least_best (ks : List Int) : ∀ j, argBest (ltK fun i => ks.getD i 0) j = leastAt ks j
  | 0 => rfl
  | j + 1 => by
    have ih := least_best ks j
    show (if ltK _ (j + 1) (argBest _ j) = true then j + 1 else argBest _ j) = _
    rw [ih]
    show _ = (if ks.getD (j + 1) 0 < ks.getD (leastAt ks j) 0 then j + 1 else leastAt ks j)
    simp only [ltK, decide_eq_true_eq]
theorem keysOf_len {c : Fnc} : ∀ {ds : List D} {ks : List Int}, keysOf c ds = some ks → ks.length = ds.length
  | [], ks, h => by
    cases h
    rfl
  | d :: ds, ks, h => by
    unfold keysOf at h
    split at h
    · simp only [Option.map_eq_some_iff] at h
      obtain ⟨ls, h1, rfl⟩ := h
      simp [keysOf_len h1]
    · cases h
theorem keysOf_at {c : Fnc} : ∀ {ds : List D} {ks : List Int}, keysOf c ds = some ks → ∀ {i : Nat} {d : D}, ds[i]? = some d → c none [d] = some (.dat (.int (ks.getD i 0)), none)
  | [], ks, h, i, d, hd => by cases hd
  | d :: ds, ks, h, i, d', hd => by
    unfold keysOf at h
    split at h
    · rename_i k hk
      simp only [Option.map_eq_some_iff] at h
      obtain ⟨ls, h1, rfl⟩ := h
      cases i with
      | zero =>
        cases hd
        exact hk
      | succ i => exact keysOf_at h1 hd
    · cases h
section
variable {X : Cx} {o : Expr} {f : Eo} {c : Fnc} {p cp kp p2 : Pos} {k : Nat} {fa : Addr} {fd : FuncData} {p1 y : Str}
theorem x_minK (F : FnOk X.prog X.w X.K X.mg X.base CX0 k fa fd [p1] (spI X.K c)) (hr : Room k X.A.in1) (hg2 : Gl X y) (hm2 : X.mg y = some (.ref fa)) (hbd : Binds X.K fd [p1] []) (hg : Gl X "min") (hm : X.mg "min" = none) (hb : bootBuiltins "min" = some (.builtin "min")) (ho : XO X o f)
    (hdb : (y == ("__debug__" : Str)) = false := by decide)
    (h1 : backTo cp (starEach [o] X.env) = (false, eval o X.env) :: backTo cp (starEach [] X.env) := by rfl) (h2 : (backTo cp (starEach [o] X.env)).any (·.1) = false := by rfl)
    (h3 : (backToKw cp (keywordEach [⟨some "key", .Name y p2, kp⟩] X.env)).all (fun x => x.1.isSome) = true := by rfl) (h4 : (backToKw cp (keywordEach [⟨some "key", .Name y p2, kp⟩] X.env)).any (fun x => x.1.isNone) = false := by rfl)
    (h5 : List.filterMap (fun x => x.1) (backToKw cp (keywordEach [⟨some "key", .Name y p2, kp⟩] X.env)) = [("key" : Str)] := by rfl) (h6 : starEach [o] X.env = (false, eval o X.env) :: starEach [] X.env := by rfl) :
    XV X (.Call (.Name "min" p) [o] [⟨some "key", .Name y p2, kp⟩] cp) (vMinK c f) :=
  (pe_callBK (crk_minK F hr hbd) hg hm hb (pa_cons ho pa_nil h6) (pk_cons (pe_glob (v := .ref fa) hg2 hm2 rfl hdb) pk_nil) (by decide) (by decide) h1 h2 h3 h4 h5).weak fun σ H Q h => by
    obtain ⟨G, H0, δ, res, δ', eK, R, e0, q⟩ := h
    simp only [vMinK, Option.bind_eq_some_iff] at e0
    obtain ⟨⟨o1, δ1⟩, e1, d, e2, e3⟩ := e0
    refine ⟨G, H0, δ, o1, _, eK, R, e1, fun v A H' R' s kk => ?_⟩
    have rt := R'.rd kk e2
    split at e3
    · rename_i ds
      simp only [Option.bind_eq_some_iff, Option.map_eq_some_iff] at e3
      obtain ⟨ks, i1, d, i2, i3⟩ := e3
      cases i3
      obtain ⟨l, xs, rfl, g1, g2⟩ := relT_list R'.sub rt
      have hlen := g2.length
      have h0 : 0 < ds.length := by
        cases ds with
        | nil => cases i2
        | cons _ _ => simp
      refine ⟨l, xs, fun i => ks.getD i 0, fun H2 => ∃ B, Rl G B H2 δ' σ ∧ Sub A B ∧ Sub H' H2, rfl, rfl, by omega, ⟨A, R', Sub.refl _, Sub.refl _⟩, fun H2 ⟨B, _, _, s2⟩ => SqL.of (s2 _ _ g1), fun i x H2 hx ⟨B, R2, s1, s2⟩ => ?_, fun H2 x ⟨B, R2, s1, s2⟩ hx => ?_⟩
      · obtain ⟨d', hd', rd'⟩ := g2.getV hx
        refine ⟨B, [d'], _, R2.sub, .inl ⟨.cons (by rw [← eK]; exact rd'.sub s1) .nil, keysOf_at i1 hd', fun u B2 H3 t1 t2 t3 t4 t5 => ?_⟩⟩
        have t5 : Rel X.K B2 u (.int (ks.getD i 0)) := t5
        cases t5
        exact ⟨rfl, B2, R2.grow t3 t1 t2 t4, s1.trans t1, s2.trans t3⟩
      · obtain ⟨d', hd', rd'⟩ := g2.getV hx
        rw [least_best, hlen] at hd'
        rw [i2] at hd'
        cases hd'
        exact q x B H2 R2 (s.trans s1) (rd'.sub s1)
    · cases e3
end
end IP
end
section
set_option Elab.async false
set_option linter.all false
set_option maxRecDepth 100000
/-! HeadI: the head of a program that imports. -/
noncomputable section
namespace HeadI
open PySem PySem.W PySem.Calls PyProof.Rows HandSHeadRun
/-- the opening, to the end of its imports -/
def impF (st : SharedT → Thread → Option (SharedT × Thread)) : Nat → SharedT → Thread → Option SharedT
  | 0, _, _ => none
  | n + 1, s, t => match t.atExitBegin with
    | some [] => some s
    | some (_ :: _) => none
    | none => match st s t with
      | some (s', t') => frS s' fun s' => impF st n s' t'
      | none => none
theorem impF_ok {tb : String → Option Builtin} {p : Program} {w : World} : ∀ {m : Nat} {s s' : SharedT} {t : Thread}, impF (stepT (denote tb) p w) m s t = some s' → importEnds tb p w m s.abs t = some s'.abs
  | 0, _, _, _, h => by cases h
  | m + 1, s, s', t, h => by
    have h1 : (match t.atExitBegin with
      | some [] => some s
      | some (_ :: _) => none
      | none => match stepT (denote tb) p w s t with
        | some (s', t') => frS s' fun s' => impF (stepT (denote tb) p w) m s' t'
        | none => none) = some s' := h
    unfold importEnds
    cases ht : t.atExitBegin with
    | some l =>
      rw [ht] at h1
      cases l with
      | nil => cases h1; rfl
      | cons x l => cases h1
    | none =>
      rw [ht] at h1
      cases hs : stepT (denote tb) p w s t with
      | none => rw [hs] at h1; cases h1
      | some r =>
        obtain ⟨s2, t2⟩ := r
        rw [hs] at h1
        have h3 : (frS s2 fun s' => impF (stepT (denote tb) p w) m s' t2) = some s' := h1
        rw [frS_eq] at h3
        have q := impF_ok h3
        show (match step (denote tb) p w s.abs t with
          | .go s' t' => importEnds tb p w m s' t'
          | .halt _ _ => none) = some s'.abs
        rw [stepT_spec hs]
        exact q
/-- the state that all begins with -/
def beginT (p : Program) : SharedT := ⟨.nil, 0, (start p).1.heap.life, (start p).1.gens, (start p).1.drawn, (start p).1.toks, (start p).1.os⟩
theorem beginT_ok (p : Program) : (beginT p).abs = (start p).1 := rfl
/-- a state as a tree -/
def treeOf (s : Shared) : Option SharedT := match putAll s.heap.objs.toList .nil 0 with
  | some (t, n) => some ⟨t, n, s.heap.life, s.gens, s.drawn, s.toks, s.os⟩
  | none => none
theorem treeOf_ok {s : Shared} {T : SharedT} (h : treeOf s = some T) : T.abs = s := by
  unfold treeOf at h
  cases e : putAll s.heap.objs.toList .nil 0 with
  | none => rw [e] at h; cases h
  | some r =>
    obtain ⟨t, n⟩ := r
    rw [e] at h
    cases h
    show (⟨absHeap t n s.heap.life, s.gens, s.drawn, s.toks, s.os⟩ : Shared) = s
    rw [putAll_heap e]
/-- all of it: the opening, the fences, the top -/
def endI {β : Type} (st : Program → SharedT → Thread → Option (SharedT × Thread)) (M1 M2 : Nat) (p : Program) (k : Heap → SharedT → β) : Option (Bool × β) :=
  match impF (st (opening p)) M1 (beginT (opening p)) (start (opening p)).2 with
  | some s1 => match fenceModules? p s1.abs with
    | some s2 => match treeOf s2 with
      | some T => frS T fun T => match goF (st p) T.n (s2.heap.nsMap mainGlobals "__annotations__") M2 T (topStub p) with
        | some s => some (s2.heap.isNs mainGlobals && s2.gens.size == 0, k s2.heap s)
        | none => none
      | none => none
    | none => none
  | none => none
theorem left_imp {p q : Program} {loose : List Str} {Xt : Shared → Bool} {α : Type} {Yf : Shared → α} {Ya : World → α} {N M1 M2 : Nat}
    (l1 : Nat.ble M1 N = true) (l2 : Nat.ble M2 N = true)
    (run : ∀ w : World, endI (fun p => stepT (denote treeTable) p w) M1 M2 p (fun h0 s => (looksF p h0 s.abs, openSeen q loose (importedModules p.main.body) Xt true s.abs, Yf s.abs)) = some (true, true, openGood q loose, Ya w)) :
    LeftO p q loose Xt Yf Ya N true := fun w => by
  have r := run w
  unfold endI at r
  cases e1 : impF (stepT (denote treeTable) (opening p) w) M1 (beginT (opening p)) (start (opening p)).2 with
  | none => rw [e1] at r; cases r
  | some s1 =>
    rw [e1] at r
    dsimp only at r
    cases e2 : fenceModules? p s1.abs with
    | none => rw [e2] at r; cases r
    | some s2 =>
      rw [e2] at r
      dsimp only at r
      cases e3 : treeOf s2 with
      | none => rw [e3] at r; cases r
      | some T =>
        rw [e3] at r
        dsimp only at r
        rw [frS_eq] at r
        cases e4 : goF (stepT (denote treeTable) p w) T.n (s2.heap.nsMap mainGlobals "__annotations__") M2 T (topStub p) with
        | none => rw [e4] at r; cases r
        | some s =>
          rw [e4] at r
          have r : (s2.heap.isNs mainGlobals && s2.gens.size == 0) = true ∧ looksF p s2.heap s.abs = true ∧ openSeen q loose (importedModules p.main.body) Xt true s.abs = openGood q loose ∧ Yf s.abs = Ya w := by simpa only [Option.some.injEq, Prod.mk.injEq] using r
          have hT := treeOf_ok e3
          have hn : s2.heap.objs.size = T.n := by
            rw [← hT]
            exact absHeap_size T.tree T.n T.life
          have i1 := impF_ok e1
          rw [beginT_ok] at i1
          have i2 := importEnds_mono (N - M1) _ _ _ _ i1
          rw [show M1 + (N - M1) = N by have := Nat.le_of_ble_eq_true l1; omega] at i2
          have g := topRun_mono (N - M2) _ _ _ _ (goF_ok e4)
          rw [show M2 + (N - M2) = N by have := Nat.le_of_ble_eq_true l2; omega, hT] at g
          have l : (staticsOk (importedModules p.main.body) s2.heap s.abs.heap && namesBound p s.abs.heap && gensDone s.abs && laidKept s2.heap s.abs.heap) = true := r.2.1
          have t : topFrom treeTable p w N s2 = some s.abs := by
            unfold topFrom
            rw [r.1]
            show (topRun treeTable p w s2.heap.objs.size _ N s2 (topStub p)).bind _ = _
            rw [hn, g]
            show (match staticsOk (importedModules p.main.body) s2.heap s.abs.heap && namesBound p s.abs.heap && gensDone s.abs && laidKept s2.heap s.abs.heap with | true => some s.abs | false => none) = _
            rw [l]
          unfold openEnds fencedOpening
          rw [i2]
          show ((fenceModules? p s1.abs).bind (topFrom treeTable p w N)).map _ = _
          rw [e2]
          show (topFrom treeTable p w N s2).map _ = _
          rw [t]
          exact congrArg some (Prod.ext r.2.2.1 r.2.2.2)
/-- the run's equation, by the library's twins -/
def RunI (r : OpenRow) (q : Program) (H : Hook) (ob : SharedT → H.α) (M1 M2 : Nat) (loose : List PySem.Str) (w : World) : Prop :=
  endI (fun p => stepQ (denQ tabQ) p w) M1 M2 r.prog (fun h0 s => (looksF r.prog h0 s.abs, seenQ q loose (importedModules r.prog.main.body) (fun s => xlAt q [] s && recOk r.toRowW.records s) s.abs, ob s)) = some (true, true, openGood q loose, H.val w)
theorem head_imp {r : OpenRow} {q : Program} {H : Hook} {ob : SharedT → H.α} {M1 M2 : Nat} {loose : List PySem.Str} {d : DefRec} {kwd : List (PySem.Str × PySem.Expr)} (ho : ∀ s : SharedT, ob s = H.obs s.abs)
    (run : ∀ w, RunI r q H ob M1 M2 loose w)
    (hdef : defOf q r.name = some (d, kwd)) (hp : r.prog.theDef r.name = some (d.params, d.body, d.scope)) (hk : kwWritten? d.params.kwonlyargs d.params.kw_defaults = some kwd)
    (hwr : (!r.writes || r.records.isEmpty) = true) (k1 : r.wellSaid = true) (ok : (chainsOk q && opensWell r.prog && (frees r.toRowW && r.within.isEmpty)) = true) (hb : r.prog.bare) (hw : r.toRowW.promised)
    (call : WalkO q loose (XL q []) H.says r.toRowW d kwd fun f vs => PySem.call f vs) : r.Holds := by
  have left : LeftO r.prog q loose (fun s => xlAt q [] s && recOk r.toRowW.records s) H.obs H.val (M1 + M2) true :=
    left_imp (M1 := M1) (M2 := M2) (Nat.ble_eq_true_of_le (by omega)) (Nat.ble_eq_true_of_le (by omega)) fun w => by
      have z := run w
      have eo : ob = fun s => H.obs s.abs := funext ho
      unfold RunI at z
      rw [eo] at z
      have es : (fun p => stepT (denote treeTable) p w) = fun p => stepQ (denQ tabQ) p w := by
        funext p
        rw [stepQ_eq, denQ_eq, tabQ_eq]
      rw [es]
      simp only [seenQ_eq]
      exact z
  exact holds_open (r := r) (q := q) (loose := loose) (XP := XL q []) (YP := H.says) (d := d) (kwd := kwd) left H.of H.keeps (fun s z => xl_of s (Bool.and_eq_true_iff.mp z).1) XL.keeps hdef hp hk (fun s z => recFacts_of (Bool.and_eq_true_iff.mp z).2) hwr k1 ok hb hw call
end HeadI
end
section
set_option linter.all false
/-! Lem: reckoning with IP. -/
namespace IPL
open IP
open PySem (PyData)
abbrev iT (xs : List Int) : D := .tuple (xs.map .int)
abbrev iL (xs : List Int) : D := .list (xs.map .int)
@[simp] theorem intsOf_map (xs : List Int) : intsOf (xs.map .int) = some xs := by
  induction xs with
  | nil => rfl
  | cons x xs ih => simp [intsOf, ih]
@[simp] theorem boolsOf_map (xs : List Bool) : boolsOf (xs.map .bool) = some xs := by
  induction xs with
  | nil => rfl
  | cons x xs ih => simp [boolsOf, ih]
@[simp] theorem intsOf_comp {α : Type} (f : α → Int) (xs : List α) : intsOf (xs.map (PyData.int ∘ f)) = some (xs.map f) := by
  rw [← List.map_map, intsOf_map]
@[simp] theorem intsOf_fun {α : Type} (f : α → Int) (xs : List α) : intsOf (xs.map fun x => PyData.int (f x)) = some (xs.map f) := intsOf_comp f xs
@[simp] theorem boolsOf_comp {α : Type} (f : α → Bool) (xs : List α) : boolsOf (xs.map (PyData.bool ∘ f)) = some (xs.map f) := by
  rw [← List.map_map, boolsOf_map]
@[simp] theorem boolsOf_fun {α : Type} (f : α → Bool) (xs : List α) : boolsOf (xs.map fun x => PyData.bool (f x)) = some (xs.map f) := boolsOf_comp f xs
@[simp] theorem same_ints (xs : List Int) : sameAll (xs.map .int) (xs.map .int) = true := by
  induction xs with
  | nil => simp [sameAll]
  | cons x xs ih => simp [sameAll, same, ih]
/-! ### comprehensions -/
@[simp] def lcTurn (vs : List Nat) (g : Tg) (t : Et) (e : Ev) (x : D) (δ : Env) : Option (Option D × Env) := (g.put x δ).bind fun δ1 => (t δ1).bind fun p => if p.1 = true then
    (e p.2).bind fun r => (unAll vs r.2).map fun δ2 => (some r.1.toD, δ2)
  else (unAll vs p.2).map fun δ2 => (none, δ2)
theorem lcGo_cons {vs : List Nat} {g : Tg} {t : Et} {e : Ev} {src : List D} {ow : Option Nat} {x : D} {xs : List D} {δ : Env} (h : still δ src ow = true) :
    lcGo vs g t e src ow (x :: xs) δ = (lcTurn vs g t e x δ).bind fun p => (lcGo vs g t e src ow xs p.2).map fun q => (p.1.toList ++ q.1, q.2) := by
  rw [lcGo, if_pos h]
  unfold lcTurn
  cases g.put x δ with
  | none => rfl
  | some δ1 =>
    simp only [Option.bind_some]
    cases t δ1 with
    | none => rfl
    | some p =>
      simp only [Option.bind_some]
      by_cases hp : p.1 = true
      · simp only [hp, if_true]
        cases e p.2 with
        | none => rfl
        | some r =>
          simp only [Option.bind_some]
          cases unAll vs r.2 with
          | none => rfl
          | some δ2 =>
            simp only [Option.bind_some, Option.map_some]
            rfl
      · simp only [hp, if_false]
        cases unAll vs p.2 with
        | none => rfl
        | some δ2 =>
          simp only [Option.bind_some, Option.map_some]
          show lcGo vs g t e src ow xs δ2 = (lcGo vs g t e src ow xs δ2).map fun q => (([] : List D) ++ q.1, q.2)
          cases lcGo vs g t e src ow xs δ2 with
          | none => rfl
          | some q => rfl
/-- every turn leaves the environment as it was -/
theorem lcGo_pure {α : Type} {vs : List Nat} {g : Tg} {t : Et} {e : Ev} {src : List D} {ow : Option Nat} {δ : Env} (enc : α → D) (f : α → Option D) (hst : still δ src ow = true) :
    ∀ (xs : List α), (∀ x ∈ xs, lcTurn vs g t e (enc x) δ = some (f x, δ)) → lcGo vs g t e src ow (xs.map enc) δ = some (xs.filterMap f, δ)
  | [], _ => by simp [lcGo, hst]
  | x :: xs, h => by
    rw [List.map_cons, lcGo_cons hst, h x List.mem_cons_self]
    simp only [Option.bind_some]
    rw [lcGo_pure enc f hst xs fun y hy => h y (List.mem_cons_of_mem _ hy), List.filterMap_cons]
    cases f x <;> rfl
theorem lcGo_map {α : Type} {vs : List Nat} {g : Tg} {t : Et} {e : Ev} {src : List D} {ow : Option Nat} {δ : Env} (enc : α → D) (f : α → D) (hst : still δ src ow = true) (xs : List α) (h : ∀ x ∈ xs, lcTurn vs g t e (enc x) δ = some (some (f x), δ)) :
    lcGo vs g t e src ow (xs.map enc) δ = some (xs.map f, δ) := by
  rw [lcGo_pure enc (fun x => some (f x)) hst xs h]
  rw [show xs.filterMap (fun x => some (f x)) = xs.map f from congrFun List.filterMap_eq_map xs]
/-! ### loops -/
theorem forGo_inv {α : Type} {g : Tg} {b : Es} (enc : α → D) (P : Nat → Env → Prop) : ∀ (xs : List α) (k : Nat) (δ : Env), P k δ →
    (∀ i x δ, xs[i]? = some x → P (k + i) δ → ∃ δ1 δ2 o, g.put (enc x) δ = some δ1 ∧ b δ1 = some (o, δ2) ∧ (o = .nx ∨ o = .ct) ∧ P (k + i + 1) δ2) → ∃ δ', forGo g b (xs.map enc) δ = some (.nx, δ') ∧ P (k + xs.length) δ'
  | [], k, δ, h0, _ => ⟨δ, rfl, h0⟩
  | x :: xs, k, δ, h0, h => by
    obtain ⟨δ1, δ2, o, e1, e2, e3, e4⟩ := h 0 x δ rfl h0
    obtain ⟨δ', a1, a2⟩ := forGo_inv enc P xs (k + 1) δ2 e4 fun i y δ hy hp => by
      have := h (i + 1) y δ (by simpa using hy) (by rw [show k + (i + 1) = k + 1 + i by omega]; exact hp)
      rw [show k + (i + 1) + 1 = k + 1 + i + 1 by omega] at this
      exact this
    refine ⟨δ', ?_, by rw [List.length_cons, show k + (xs.length + 1) = k + 1 + xs.length by omega]; exact a2⟩
    rw [List.map_cons, forGo, e1]
    simp only [Option.bind_some, e2]
    rcases e3 with rfl | rfl <;> exact a1
/-- a loop that looks for the first item with c -/
theorem forGo_find {α : Type} {g : Tg} {b : Es} (enc : α → D) (P : Env → Prop) (c : α → Bool) (r : α → Res) : ∀ (xs : List α) (δ : Env), P δ →
    (∀ x δ, x ∈ xs → P δ → ∃ δ1 δ2, g.put (enc x) δ = some δ1 ∧ P δ2 ∧ b δ1 = some (if c x = true then .rt (r x) else .nx, δ2)) →
    ∃ δ', P δ' ∧ forGo g b (xs.map enc) δ = some ((match xs.find? c with | none => .nx | some x => .rt (r x)), δ')
  | [], δ, h0, _ => ⟨δ, h0, rfl⟩
  | x :: xs, δ, h0, h => by
    obtain ⟨δ1, δ2, e1, e2, e3⟩ := h x δ List.mem_cons_self h0
    rw [List.map_cons, forGo, e1]
    simp only [Option.bind_some, e3]
    by_cases hc : c x = true
    · refine ⟨δ2, e2, ?_⟩
      simp [hc]
    · obtain ⟨δ', a1, a2⟩ := forGo_find enc P c r xs δ2 e2 fun y δ hy hp => h y δ (List.mem_cons_of_mem _ hy) hp
      refine ⟨δ', a1, ?_⟩
      simp [hc, a2]
theorem whileGo_inv {t : Et} {b : Es} (P Q : Env → Prop) (μ : Env → Nat) (h : ∀ δ, P δ → (∃ δ1, t δ = some (false, δ1) ∧ Q δ1) ∨ (∃ δ1 δ2 o, t δ = some (true, δ1) ∧ b δ1 = some (o, δ2) ∧ (o = .nx ∨ o = .ct) ∧ P δ2 ∧ μ δ2 < μ δ)) :
    ∀ (n : Nat) (δ : Env), P δ → μ δ < n → ∃ δ', whileGo t b n δ = some (.nx, δ') ∧ Q δ'
  | 0, δ, _, h => by omega
  | n + 1, δ, hp, hn => by
    rw [whileGo]
    rcases h δ hp with ⟨δ1, e1, e2⟩ | ⟨δ1, δ2, o, e1, e2, e3, e4, e5⟩
    · exact ⟨δ1, by simp [e1], e2⟩
    · obtain ⟨δ', a1, a2⟩ := whileGo_inv P Q μ h n δ2 e4 (by omega)
      refine ⟨δ', ?_, a2⟩
      simp only [e1, Option.bind_some, if_true, e2]
      rcases e3 with rfl | rfl <;> exact a1
/-! ### items -/
theorem ixN_nat {n j : Nat} (h : j < n) : IP.ixN n (j : Int) = some j := by
  unfold IP.ixN
  rw [if_pos (by omega), if_pos (by omega)]
  simp
@[simp] theorem atD_ints (xs : List Int) (i : Int) : atD (xs.map .int) i = ((IP.ixN xs.length i).bind fun j => xs[j]?).map .int := by
  unfold atD
  simp only [List.length_map, List.getElem?_map]
  cases IP.ixN xs.length i <;> simp
@[simp] theorem cutD_ints (xs : List Int) (lo hi : Option Int) : cutD (xs.map .int) lo hi = ((xs.drop (clampIx xs.length 0 lo)).take (clampIx xs.length xs.length hi - clampIx xs.length 0 lo)).map .int := by
  unfold cutD
  simp
theorem rangeD_eq (lo : Int) (n : Nat) : rangeD lo n = (List.range n).map fun (k : Nat) => .int (lo + (k : Int)) := rfl
theorem downD_eq (hi : Int) (n : Nat) : downD hi n = (List.range n).map fun (k : Nat) => .int (hi - (k : Int)) := rfl
theorem enumD_eq : ∀ (k : Nat) (xs : List D), enumD k xs = (List.range xs.length).map fun (i : Nat) => .tuple [.int ((k + i : Nat) : Int), xs.getD i .none]
  | _, [] => rfl
  | k, x :: xs => by
    rw [enumD, enumD_eq (k + 1) xs, List.length_cons, List.range_succ_eq_map, List.map_cons, List.map_map]
    simp only [Nat.add_zero, List.getD_cons_zero]
    congr 1
    apply List.map_congr_left
    intro i _
    simp [Nat.add_comm, Nat.add_left_comm]
end IPL
end
section
set_option linter.all false
/-! Ev: the rules by which a body is reckoned, one a construct. -/
namespace EV
open IP
open PySem (PyData)
variable {δ δ1 δ2 δ3 δ4 δ' : Env} {d x y z : D} {r r' : Res} {o o' : Out} {b b' : Bool} {i j k : Nat} {ds es xs ys : List D} {s : Slot} {p q : Opd} {os : List Opd}
abbrev iT (xs : List Int) : D := .tuple (xs.map .int)
abbrev iL (xs : List Int) : D := .list (xs.map .int)
/-! slots -/
theorem g_0 : (s :: δ)[0]? = some s := rfl
theorem g_s (h : δ[i]? = some s) {t : Slot} : (t :: δ)[i + 1]? = some s := h
theorem st_0u : setSlot (.un :: δ) 0 s = some (s :: δ) := rfl
theorem st_0d : setSlot (.dat d :: δ) 0 s = some (s :: δ) := rfl
theorem st_0o : setSlot (.own ds :: δ) 0 s = some (s :: δ) := rfl
theorem st_s {t : Slot} (h : setSlot δ i s = some δ') : setSlot (t :: δ) (i + 1) s = some (t :: δ') := by
  simp only [setSlot, List.getElem?_cons_succ, List.set_cons_succ] at h ⊢
  cases h' : δ[i]? with
  | none => simp [h'] at h
  | some sl => cases sl <;> simp_all
theorem ls_0 {t : Slot} : (t :: δ).set 0 s = s :: δ := rfl
theorem ls_s {t : Slot} (h : δ.set i s = δ') : (t :: δ).set (i + 1) s = t :: δ' := by rw [List.set_cons_succ, h]
theorem td_d : Res.toD (.dat d) = d := rfl
theorem td_n : Res.toD (.new ds) = .list ds := rfl
theorem so_d : slotOf (.dat d) = .dat d := rfl
theorem so_n : slotOf (.new ds) = .own ds := rfl
theorem rd_v : rd δ (.val d) = some d := rfl
theorem rd_o (h : δ[i]? = some (.own ds)) : rd δ (.at i) = some (.list ds) := by simp [rd, h]
theorem rd_p (h : δ[i]? = some (.prm ds)) : rd δ (.at i) = some (.list ds) := by simp [rd, h]
theorem ra_n : rdAll δ [] = some [] := rfl
theorem ra_c (h : rd δ p = some d) (h2 : rdAll δ os = some ds) : rdAll δ (p :: os) = some (d :: ds) := by
  rw [rdAll, h, h2]
  rfl
theorem vs_n : vals [] = some [] := rfl
theorem vs_c (h : vals os = some ds) : vals (.val d :: os) = some (d :: ds) := by simp [vals, h]
/-! values -/
theorem e_C : vC d δ = some (.dat d, δ) := rfl
theorem e_var (h : δ[i]? = some (.dat d)) : vVar i δ = some (.dat d, δ) := by simp [vVar, h]
theorem e_varO (h : δ[i]? = some (.own ds)) (h2 : δ.set i (.dat (.list ds)) = δ') : vVar i δ = some (.dat (.list ds), δ') := by simp [vVar, freeze, h, h2]
theorem o_var (h : δ[i]? = some (.dat d)) : oVar i δ = some (.val d, δ) := by simp [oVar, h]
theorem o_own (h : δ[i]? = some (.own ds)) : oVar i δ = some (.at i, δ) := by simp [oVar, h]
theorem o_prm (h : δ[i]? = some (.prm ds)) : oVar i δ = some (.at i, δ) := by simp [oVar, h]
theorem o_V {f : Ev} (h : f δ = some (r, δ1)) (h2 : r.toD = d) : oV f δ = some (.val d, δ1) := by
  rw [oV, h, ← h2]
  rfl
theorem e_bin {op : D → D → Option Res} {f g : Eo} (h1 : f δ = some (p, δ1)) (h2 : g δ1 = some (q, δ2)) (h3 : rd δ2 p = some x) (h4 : rd δ2 q = some y) (h5 : op x y = some r) : fBin op f g δ = some (r, δ2) := by
  simp only [fBin, h1, h2, h3, h4, h5, Option.bind_some, Option.map_some]
theorem e_un {op : D → Option Res} {f : Eo} (h1 : f δ = some (p, δ1)) (h3 : rd δ1 p = some x) (h5 : op x = some r) : fUn op f δ = some (r, δ1) := by
  simp only [fUn, h1, h3, h5, Option.bind_some, Option.map_some]
theorem e_not {f : Ev} (h : f δ = some (.dat (.bool b), δ1)) : vNot f δ = some (.dat (.bool (!b)), δ1) := by simp [vNot, h]
def andV (b : Bool) (g : Ev) (δ : Env) : Option (Res × Env) := if b = true then g δ else some (.dat (.bool false), δ)
def orV (b : Bool) (g : Ev) (δ : Env) : Option (Res × Env) := if b = true then some (.dat (.bool true), δ) else g δ
theorem andV_t {g : Ev} {R : Option (Res × Env)} (hb : b = true) (h : g δ = R) : andV b g δ = R := by rw [andV, if_pos hb, h]
theorem andV_f {g : Ev} (hb : b = false) : andV b g δ = some (.dat (.bool false), δ) := by rw [andV, hb]; rfl
theorem orV_t {g : Ev} (hb : b = true) : orV b g δ = some (.dat (.bool true), δ) := by rw [orV, if_pos hb]
theorem orV_f {g : Ev} {R : Option (Res × Env)} (hb : b = false) (h : g δ = R) : orV b g δ = R := by rw [orV, hb, ← h]; rfl
theorem e_and {f g : Ev} (h1 : f δ = some (.dat (.bool b), δ1)) (h2 : andV b g δ1 = some (r, δ2)) : vAnd f g δ = some (r, δ2) := by rw [vAnd_s, h1]; exact h2
theorem e_or {f g : Ev} (h1 : f δ = some (.dat (.bool b), δ1)) (h2 : orV b g δ1 = some (r, δ2)) : vOr f g δ = some (r, δ2) := by rw [vOr_s, h1]; exact h2
def iteV (b : Bool) (f g : Ev) (δ : Env) : Option (Res × Env) := if b = true then f δ else g δ
theorem iteV_t {f g : Ev} {R : Option (Res × Env)} (hb : b = true) (h : f δ = R) : iteV b f g δ = R := by rw [iteV, if_pos hb, h]
theorem iteV_f {f g : Ev} {R : Option (Res × Env)} (hb : b = false) (h : g δ = R) : iteV b f g δ = R := by rw [iteV, hb, ← h]; rfl
theorem e_ite {t : Et} {f g : Ev} (h1 : t δ = some (b, δ1)) (h2 : iteV b f g δ1 = some (r, δ2)) : vIte t f g δ = some (r, δ2) := by simp only [vIte, h1, Option.bind_some]; exact h2
def chK (b : Bool) (h : Eo) (o2 : D → D → Option Res) (q : Opd) (δ : Env) : Option (Res × Env) :=
  if b = true then (h δ).bind fun u => (rd u.2 q).bind fun y' => (rd u.2 u.1).bind fun z => (o2 y' z).map fun r => (r, u.2) else some (.dat (.bool false), δ)
theorem chK_t {h : Eo} {o2 : D → D → Option Res} (hb : b = true) (h1 : h δ = some (p, δ1)) (h2 : rd δ1 q = some y) (h3 : rd δ1 p = some z) (h4 : o2 y z = some r) : chK b h o2 q δ = some (r, δ1) := by
  simp only [chK, hb, if_true, h1, h2, h3, h4, Option.bind_some, Option.map_some]
theorem chK_f {h : Eo} {o2 : D → D → Option Res} (hb : b = false) : chK b h o2 q δ = some (.dat (.bool false), δ) := by rw [chK, hb]; rfl
theorem e_chain {o1 o2 : D → D → Option Res} {f g h : Eo} (h1 : f δ = some (p, δ1)) (h2 : g δ1 = some (q, δ2)) (h3 : rd δ2 p = some x) (h4 : rd δ2 q = some y) (h5 : o1 x y = some (.dat (.bool b))) (h6 : chK b h o2 q δ2 = some (r, δ3)) : vChain o1 o2 f g h δ = some (r, δ3) := by
  rw [vChain_s, h1]
  simp only [Option.bind_some, h2, h3, h4, h5, asB]
  exact h6
theorem e_tup {f : Ea} (h : f δ = some (os, δ1)) (h2 : vals os = some ds) (h3 : ds.length ≤ line) : vTup f δ = some (.dat (.tuple ds), δ1) := by simp only [vTup, h, h2, Option.bind_some, if_pos h3]
theorem e_lst {f : Ea} (h : f δ = some (os, δ1)) (h2 : vals os = some ds) (h3 : ds.length ≤ line) : vLst f δ = some (.new ds, δ1) := by simp only [vLst, h, h2, Option.bind_some, if_pos h3]
theorem e_bi {bb : List D → Option Res} {f : Ea} (h : f δ = some (os, δ1)) (h2 : rdAll δ1 os = some ds) (h3 : bb ds = some r) : vBi bb f δ = some (r, δ1) := by simp only [vBi, h, h2, h3, Option.bind_some, Option.map_some]
theorem a_n : aNil δ = some ([], δ) := rfl
theorem a_c {f : Eo} {g : Ea} (h : f δ = some (p, δ1)) (h2 : g δ1 = some (os, δ2)) : aCons f g δ = some (p :: os, δ2) := by simp [aCons, h, h2]
theorem e_call {c : Fnc} {f : Ea} (h1 : f δ = some (os, δ1)) (h2 : rdAll δ1 os = some ds) (h0 : anyAt os = false) (h3 : c none ds = some (r, none)) : vCall c f δ = some (r, δ1) := by
  simp only [vCall, h1, h2, h3, Option.bind_some, if_pos h0]
theorem e_callD {c : Fnc} {f : Ea} (h1 : f δ = some (os, δ1)) (h2 : rdAll δ1 os = some ds) (h3 : c none ds = some (.dat d, none)) (h0 : noList d = true) : vCall c f δ = some (.dat d, δ1) := by
  simp only [vCall, h1, h2, h3, Option.bind_some, h0]
  split <;> rfl
theorem e_callN {c : Fnc} {f : Ea} (h1 : f δ = some (os, δ1)) (h2 : rdAll δ1 os = some ds) (h3 : c none ds = some (.new es, none)) (h0 : noListAll es = true) : vCall c f δ = some (.new es, δ1) := by
  simp only [vCall, h1, h2, h3, Option.bind_some, h0]
  split <;> rfl
theorem ow_o (h : δ[i]? = some (.own ds)) : ownAt δ i = true := by simp [ownAt, h]
theorem ow_p (h : δ[i]? = some (.prm ds)) : ownAt δ i = true := by simp [ownAt, h]
theorem e_callRo {c : Fnc} {f : Ea} (h0 : ownAt δ i = true) (h1 : f δ = some (os, δ1)) (h2 : vals os = some ds) (h3 : δ1[i]? = some (.own xs)) (h4 : c (some xs) ds = some (r, some ys)) (h5 : δ1.set i (.own ys) = δ2) : vCallR c i f δ = some (r, δ2) := by
  simp only [vCallR, h0, if_true, h1, h2, h3, h4, h5, Option.bind_some]
theorem e_callRp {c : Fnc} {f : Ea} (h0 : ownAt δ i = true) (h1 : f δ = some (os, δ1)) (h2 : vals os = some ds) (h3 : δ1[i]? = some (.prm xs)) (h4 : c (some xs) ds = some (r, some ys)) (h5 : δ1.set i (.prm ys) = δ2) : vCallR c i f δ = some (r, δ2) := by
  simp only [vCallR, h0, if_true, h1, h2, h3, h4, h5, Option.bind_some]
/-! slices -/
theorem pn : pNo δ = some (none, δ) := rfl
theorem ps {f : Eo} {v : Int} (h : f δ = some (.val (.int v), δ1)) : pSo f δ = some (some v, δ1) := by simp [pSo, h]
def cutR (x : D) (lo hi : Option Int) : Option Res := match x with
  | .list xs => some (.new (cutD xs lo hi))
  | .tuple xs => some (.dat (.tuple (cutD xs lo hi)))
  | _ => none
theorem e_sl {f : Eo} {lo hi : Env → Option (Option Int × Env)} {l h : Option Int} (h1 : f δ = some (p, δ1)) (h2 : lo δ1 = some (l, δ2)) (h3 : hi δ2 = some (h, δ3)) (h4 : rd δ3 p = some x) (h5 : cutR x l h = some r) : fSl f lo hi δ = some (r, δ3) := by
  simp only [fSl, h1, h2, h3, h4, Option.bind_some]
  cases x <;> simp only [cutR, reduceCtorEq] at h5 <;> cases h5 <;> rfl
theorem clampN {n a : Nat} (h : a ≤ n) (d : Nat) : clampIx n d (some (a : Int)) = a := by
  simp only [clampIx]
  rw [if_neg (by omega), Int.toNat_natCast]
  omega
theorem clampBig {n a : Nat} (h : n ≤ a) (d : Nat) : clampIx n d (some (a : Int)) = n := by
  simp only [clampIx]
  rw [if_neg (by omega), Int.toNat_natCast]
  omega
theorem clampNeg {n a d : Nat} (h : a ≤ n) (h0 : 0 < a) : clampIx n d (some (-(a : Int))) = n - a := by
  simp only [clampIx]
  rw [if_pos (by omega)]
  omega
theorem cutTo (zs : List D) (a : Nat) : cutD zs none (some (a : Int)) = zs.take a := by
  unfold cutD
  rw [show clampIx zs.length 0 none = 0 from rfl, List.drop_zero, Nat.sub_zero]
  by_cases h : a ≤ zs.length
  · rw [clampN h]
  · rw [clampBig (by omega), List.take_of_length_le (Nat.le_refl _), List.take_of_length_le (by omega)]
theorem cutFrom (zs : List D) (a : Nat) : cutD zs (some (a : Int)) none = zs.drop a := by
  unfold cutD
  rw [show clampIx zs.length zs.length none = zs.length from rfl]
  by_cases h : a ≤ zs.length
  · rw [clampN h, List.take_of_length_le (by simp)]
  · rw [clampBig (by omega), List.drop_of_length_le (l := zs) (i := a) (by omega), List.drop_of_length_le (Nat.le_refl _)]
    simp
theorem cut_toT {zs : List Int} {a : Nat} : cutR (iT zs) none (some (a : Int)) = some (.dat (iT (zs.take a))) := by simp [cutR, cutTo]
theorem cut_toL {zs : List Int} {a : Nat} : cutR (iL zs) none (some (a : Int)) = some (.new ((zs.take a).map .int)) := by simp [cutR, cutTo]
theorem cut_frT {zs : List Int} {a : Nat} : cutR (iT zs) (some (a : Int)) none = some (.dat (iT (zs.drop a))) := by simp [cutR, cutFrom]
theorem cut_frL {zs : List Int} {a : Nat} : cutR (iL zs) (some (a : Int)) none = some (.new ((zs.drop a).map .int)) := by simp [cutR, cutFrom]
theorem cut_lastT {zs : List Int} : cutR (iT zs) none (some (-1)) = some (.dat (iT zs.dropLast)) := by
  simp only [cutR, cutD, Option.some.injEq, Res.dat.injEq, PyData.tuple.injEq]
  rw [show clampIx (zs.map PyData.int).length 0 none = 0 from rfl, List.drop_zero, Nat.sub_zero, ← List.map_take, List.dropLast_eq_take]
  congr 2
  simp [clampIx]
  omega
theorem cut_lastL {zs : List Int} : cutR (iL zs) none (some (-1)) = some (.new (zs.dropLast.map .int)) := by
  have := cut_lastT (zs := zs)
  simp only [cutR, Option.some.injEq, Res.dat.injEq, PyData.tuple.injEq] at this
  simp only [cutR, this]
/-! operators -/
variable {a c v w : Int} {us vs : List Int}
theorem p_add : bAdd (.int a) (.int c) = some (.dat (.int (a + c))) := rfl
theorem p_addT (h : us.length + vs.length ≤ line) : bAdd (iT us) (iT vs) = some (.dat (iT (us ++ vs))) := by simp only [bAdd, List.length_map, if_pos h, ← List.map_append]
theorem p_addL (h : us.length + vs.length ≤ line) : bAdd (iL us) (iL vs) = some (.new ((us ++ vs).map .int)) := by simp only [bAdd, List.length_map, if_pos h, ← List.map_append]
theorem p_addTs (h : us.length + 1 ≤ line) : bAdd (iT us) (.tuple [.int v]) = some (.dat (iT (us ++ [v]))) := p_addT (vs := [v]) h
theorem p_addsT (h : 1 + us.length ≤ line) : bAdd (.tuple [.int v]) (iT us) = some (.dat (iT (v :: us))) := by
  have := p_addT (us := [v]) (vs := us) (by simpa using h)
  simpa using this
theorem p_sub : bSub (.int a) (.int c) = some (.dat (.int (a - c))) := rfl
theorem p_mulL (h : -18446744073709551616 < a ∧ a < 18446744073709551616) : bMul (.int a) (.int c) = some (.dat (.int (a * c))) := by
  rw [bMul, if_pos (.inl (.inl h))]
theorem p_mulR (h : -18446744073709551616 < c ∧ c < 18446744073709551616) : bMul (.int a) (.int c) = some (.dat (.int (a * c))) := by
  rw [bMul, if_pos (.inl (.inr h))]
theorem p_mulB (h : a.natAbs.log2 + c.natAbs.log2 < 1000000) : bMul (.int a) (.int c) = some (.dat (.int (a * c))) := by
  rw [bMul, if_pos (.inr h)]
theorem p_fdiv (h : 0 < c) (h2 : c < 1073741824) : bFdiv (.int a) (.int c) = some (.dat (.int (a / c))) := by rw [bFdiv, if_pos ⟨h, .inl h2⟩]
theorem p_fdivB (h : 0 < c) (h2 : c.natAbs.log2 < 9000) : bFdiv (.int a) (.int c) = some (.dat (.int (a / c))) := by rw [bFdiv, if_pos ⟨h, .inr h2⟩]
theorem p_mod (h : 0 < c) : bMod (.int a) (.int c) = some (.dat (.int (a % c))) := by rw [bMod, if_pos h]
theorem p_lt : bLt (.int a) (.int c) = some (.dat (.bool (decide (a < c)))) := rfl
theorem p_le : bLe (.int a) (.int c) = some (.dat (.bool (decide (a ≤ c)))) := rfl
theorem p_gt : bGt (.int a) (.int c) = some (.dat (.bool (decide (c < a)))) := rfl
theorem p_ge : bGe (.int a) (.int c) = some (.dat (.bool (decide (c ≤ a)))) := rfl
theorem p_neg : uNeg (.int a) = some (.dat (.int (-a))) := rfl
theorem shI (v : Int) : PySem.SeqAt.shaped (.int v) = true := by simp [PySem.SeqAt.shaped, PySem.PyData.canLay0, PySem.PyData.depth]
theorem shN : PySem.SeqAt.shaped .none = true := by simp [PySem.SeqAt.shaped, PySem.PyData.canLay0, PySem.PyData.depth]
theorem shB (v : Bool) : PySem.SeqAt.shaped (.bool v) = true := by simp [PySem.SeqAt.shaped, PySem.PyData.canLay0, PySem.PyData.depth]
theorem beqI : (a == c) = decide (a = c) := by by_cases h : a = c <;> simp [h]
theorem p_eq : bEq (.int a) (.int c) = some (.dat (.bool (decide (a = c)))) := by rw [bEq, if_pos ⟨shI a, shI c⟩, PyData.eqv, beqI]
theorem p_ne : bNe (.int a) (.int c) = some (.dat (.bool (!decide (a = c)))) := by rw [bNe, if_pos ⟨shI a, shI c⟩, PyData.eqv, beqI]
theorem p_eqB : bEq (.bool b) (.bool b') = some (.dat (.bool (decide (b = b')))) := by
  rw [bEq, if_pos ⟨shB b, shB b'⟩, PyData.eqv]
  cases b <;> cases b' <;> rfl
theorem p_neB : bNe (.bool b) (.bool b') = some (.dat (.bool (!decide (b = b')))) := by
  rw [bNe, if_pos ⟨shB b, shB b'⟩, PyData.eqv]
  cases b <;> cases b' <;> rfl
theorem p_xor (h : 0 ≤ a) (h2 : 0 ≤ c) : bXor (.int a) (.int c) = some (.dat (.int ((a.toNat ^^^ c.toNat : Nat) : Int))) := by rw [bXor, if_pos ⟨h, h2⟩]
theorem p_and (h : 0 ≤ a) (h2 : 0 ≤ c) : bAnd (.int a) (.int c) = some (.dat (.int ((a.toNat &&& c.toNat : Nat) : Int))) := by rw [bAnd, if_pos ⟨h, h2⟩]
theorem p_bits {m : Nat} (h : m ≠ 0) : uBits (.int (m : Int)) = some (.dat (.int ((m.log2 + 1 : Nat) : Int))) := by
  simp only [uBits]
  rw [if_neg (by omega)]
  rfl
theorem ixNn {n m : Nat} (h : m < n) : IP.ixN n (m : Int) = some m := by
  unfold IP.ixN
  rw [if_pos (by omega), if_pos (by omega)]
  simp
theorem p_ixT {m : Nat} (h : m < us.length) : bIx (iT us) (.int (m : Int)) = some (.dat (.int (us.getD m 0))) := by
  simp only [bIx, atD, List.length_map, ixNn h, Option.bind_some]
  rw [List.getElem?_map, List.getElem?_eq_getElem h]
  simp [List.getD, h]
theorem p_ixL {m : Nat} (h : m < us.length) : bIx (iL us) (.int (m : Int)) = some (.dat (.int (us.getD m 0))) := by
  simp only [bIx, atD, List.length_map, ixNn h, Option.bind_some]
  rw [List.getElem?_map, List.getElem?_eq_getElem h]
  simp [List.getD, h]
theorem p_ixT' (h0 : 0 ≤ a) (h : a < us.length) : bIx (iT us) (.int a) = some (.dat (.int (us.getD a.toNat 0))) := by
  obtain ⟨m, rfl⟩ : ∃ m : Nat, (m : Int) = a := ⟨a.toNat, by omega⟩
  rw [p_ixT (by omega), Int.toNat_natCast]
theorem p_ixL' (h0 : 0 ≤ a) (h : a < us.length) : bIx (iL us) (.int a) = some (.dat (.int (us.getD a.toNat 0))) := by
  obtain ⟨m, rfl⟩ : ∃ m : Nat, (m : Int) = a := ⟨a.toNat, by omega⟩
  rw [p_ixL (by omega), Int.toNat_natCast]
theorem p_revT : uRev (iT us) = some (.dat (iT us.reverse)) := by simp only [uRev, ← List.map_reverse]
theorem p_revL : uRev (iL us) = some (.new (us.reverse.map .int)) := by simp only [uRev, ← List.map_reverse]
/-! builtins -/
theorem b_lenT : biLen [iT us] = some (.dat (.int us.length)) := by simp only [biLen, List.length_map]
theorem b_lenL : biLen [iL us] = some (.dat (.int us.length)) := by simp only [biLen, List.length_map]
theorem b_lenL' : biLen [.list ds] = some (.dat (.int ds.length)) := rfl
theorem b_lenT' : biLen [.tuple ds] = some (.dat (.int ds.length)) := rfl
theorem b_int : biInt [.int a] = some (.dat (.int a)) := rfl
theorem b_intB : biInt [.bool b] = some (.dat (.int (if b then 1 else 0))) := rfl
theorem b_tupL : biTuple [.list ds] = some (.dat (.tuple ds)) := rfl
theorem b_tupT : biTuple [.tuple ds] = some (.dat (.tuple ds)) := rfl
theorem b_lstL : biList [.list ds] = some (.new ds) := rfl
theorem b_lstT : biList [.tuple ds] = some (.new ds) := rfl
theorem b_sum : biSum [iL us] = some (.dat (.int us.sum)) := by simp only [biSum, IPL.intsOf_map, Option.map_some]
theorem b_abs : biAbs [.int a] = some (.dat (.int (if a < 0 then -a else a))) := rfl
theorem b_max : biMax [.int a, .int c] = some (.dat (.int (if c > a then c else a))) := rfl
theorem b_min : biMin [.int a, .int c] = some (.dat (.int (if c < a then c else a))) := rfl
theorem b_gcd : biGcd [.int a, .int c] = some (.dat (.int ((Nat.gcd a.natAbs c.natAbs : Nat) : Int))) := rfl
theorem l_n (n : Nat) : ([] : List D).length ≤ line := by decide
/-! what is walked -/
theorem i_E {f : Eo} (h : f δ = some (.val (.list ds), δ1)) : iE f δ = some ((ds, none), δ1) := by simp [iE, h, own?]
theorem i_ET {f : Eo} (h : f δ = some (.val (.tuple ds), δ1)) : iE f δ = some ((ds, none), δ1) := by simp [iE, h, own?]
theorem i_EO {f : Eo} (h : f δ = some (.at i, δ1)) (h2 : rd δ1 (.at i) = some (.list ds)) : iE f δ = some ((ds, some i), δ1) := by
  simp only [iE, h, Option.bind_some, h2]
  rfl
theorem i_rL {f : Eo} {zs : List Int} (h : f δ = some (.val (iL zs), δ1)) : iRevS f δ = some ((zs.reverse.map .int, none), δ1) := by simp [iRevS, h]
theorem i_rT {f : Eo} {zs : List Int} (h : f δ = some (.val (iT zs), δ1)) : iRevS f δ = some ((zs.reverse.map .int, none), δ1) := by simp [iRevS, h]
abbrev encN (k : Nat) : D := .int (k : Int)
abbrev encFrom (a : Int) (k : Nat) : D := .int (a + (k : Int))
theorem i_r1 {f : Eo} {n : Nat} (h : f δ = some (.val (.int (n : Int)), δ1)) (h2 : n ≤ 1000000000) : iRange1 f δ = some (((List.range n).map encN, none), δ1) := by
  rw [iRange1_at h (by omega)]
  simp [rangeD]
theorem i_r1' {f : Eo} (h : f δ = some (.val (.int a), δ1)) (h2 : a ≤ 1000000000) (h3 : -1000000000 ≤ a) : iRange1 f δ = some (((List.range a.toNat).map encN, none), δ1) := by
  rw [iRange1_at h (by omega)]
  simp [rangeD]
theorem i_r2 {f g : Eo} (h : f δ = some (.val (.int a), δ1)) (h1 : g δ1 = some (.val (.int c), δ2)) (h2 : a ≤ 1000000000) (h3 : -1000000000 ≤ a) (h4 : c ≤ 1000000000) (h5 : -1000000000 ≤ c) : iRange2 f g δ = some (((List.range (c - a).toNat).map (encFrom a), none), δ2) := by
  rw [iRange2_at h h1 (by omega) (by omega)]
  rfl
abbrev enc2 (p : Int × Int) : D := .tuple [.int p.1, .int p.2]
theorem zipD_ints : ∀ us vs : List Int, zipD (us.map .int) (vs.map .int) = (us.zip vs).map enc2
  | [], vs => by simp [zipD]
  | u :: us, [] => by simp [zipD]
  | u :: us, v :: vs => by simp [zipD, zipD_ints us vs]
theorem i_zT {f g : Eo} (h : f δ = some (.val (iT us), δ1)) (h1 : g δ1 = some (.val (iT vs), δ2)) : iZip f g δ = some (((us.zip vs).map enc2, none), δ2) := by simp [iZip, h, h1, zipD_ints]
theorem i_zL {f g : Eo} (h : f δ = some (.val (iL us), δ1)) (h1 : g δ1 = some (.val (iL vs), δ2)) : iZip f g δ = some (((us.zip vs).map enc2, none), δ2) := by simp [iZip, h, h1, zipD_ints]
/-! targets -/
theorem t_nm (h : setSlot δ i (.dat d) = some δ1) : (Tg.nm i).put d δ = some δ1 := h
theorem t_tup {is : List Nat} (h : setDs δ is ds = some δ1) : (Tg.tup is).put (.tuple ds) δ = some δ1 := h
theorem sd_n : setDs δ [] [] = some δ := rfl
theorem sd_c {is : List Nat} (h : setSlot δ i (.dat d) = some δ1) (h2 : setDs δ1 is ds = some δ2) : setDs δ (i :: is) (d :: ds) = some δ2 := by simp only [setDs, h, Option.bind_some, h2]
/-! comprehensions -/
theorem u_n : unAll [] δ = some δ := rfl
theorem u_u {is : List Nat} (h : δ[i]? = some .un) (h2 : unAll is δ = some δ1) : unAll (i :: is) δ = some δ1 := by simp only [unAll, h, h2]
theorem u_d {is : List Nat} (h : δ[i]? = some (.dat d)) (h2 : δ.set i .un = δ1) (h3 : unAll is δ1 = some δ2) : unAll (i :: is) δ = some δ2 := by simp only [unAll, h, h2, h3]
theorem ba_n {δ0 : Env} : backAll δ0 [] δ = δ := rfl
theorem ba_c {δ0 : Env} {is : List Nat} (h : δ0[i]? = some s) (h2 : δ.set i s = δ1) (h3 : backAll δ0 is δ1 = δ2) : backAll δ0 (i :: is) δ = δ2 := by simp only [backAll, h, h2, h3]
theorem e_lc {vs : List Nat} {it : Ei} {g : Tg} {t : Et} {e : Ev} {ow : Option Nat} (h1 : it δ = some ((xs, ow), δ1)) (h2 : unAll vs δ1 = some δ2) (h4 : lcGo vs g t e xs ow xs δ2 = some (ys, δ3)) (h3 : xs.length ≤ line) (h5 : backAll δ1 vs δ3 = δ4) : vLc vs it g t e δ = some (.new ys, δ4) := by
  simp only [vLc, h1, h2, Option.bind_some]
  rw [if_pos h3, h4, ← h5]
  rfl
section
variable {α : Type} {vs : List Nat} {g : Tg} {t : Et} {e : Ev} {src : List D} {ow : Option Nat} {enc : α → D} {l : List α}
theorem lt_y (h1 : g.put x δ = some δ1) (h2 : e δ1 = some (r, δ2)) (h4 : r.toD = d) (h3 : unAll vs δ2 = some δ) : IPL.lcTurn vs g tYes e x δ = some (some d, δ) := by
  simp only [IPL.lcTurn, h1, Option.bind_some, tYes, if_true, h2, h3, Option.map_some, h4]
theorem l_int {f : α → Int} (h : ∀ u ∈ l, IPL.lcTurn vs g tYes e (enc u) δ = some (some (.int (f u)), δ)) (hst : still δ src ow = true) : lcGo vs g tYes e src ow (l.map enc) δ = some ((l.map f).map .int, δ) := by
  rw [IPL.lcGo_map enc (fun u => .int (f u)) hst l h, List.map_map]
  rfl
theorem l_any {f : α → D} (h : ∀ u ∈ l, IPL.lcTurn vs g tYes e (enc u) δ = some (some (f u), δ)) (hst : still δ src ow = true) : lcGo vs g tYes e src ow (l.map enc) δ = some (l.map f, δ) :=
  IPL.lcGo_map enc f hst l h
theorem lt_t (h1 : g.put x δ = some δ1) (h5 : t δ1 = some (b, δ2)) (h6 : b = true) (h2 : e δ2 = some (r, δ3)) (h4 : r.toD = d) (h3 : unAll vs δ3 = some δ) : IPL.lcTurn vs g t e x δ = some (some d, δ) := by
  simp only [IPL.lcTurn, h1, Option.bind_some, h5, h6, if_true, h2, h3, Option.map_some, h4]
theorem lt_f (h1 : g.put x δ = some δ1) (h5 : t δ1 = some (b, δ2)) (h6 : b = false) (h3 : unAll vs δ2 = some δ) : IPL.lcTurn vs g t e x δ = some (none, δ) := by
  simp only [IPL.lcTurn, h1, Option.bind_some, h5, h6, h3, Option.map_some]
  rfl
/-- with a test, the items that pass as they are told -/
theorem l_flt {c : α → Bool} {f : α → D} (ht : ∀ u ∈ l, c u = true → IPL.lcTurn vs g t e (enc u) δ = some (some (f u), δ)) (hf : ∀ u ∈ l, c u = false → IPL.lcTurn vs g t e (enc u) δ = some (none, δ)) (hst : still δ src ow = true) :
    lcGo vs g t e src ow (l.map enc) δ = some ((l.filter c).map f, δ) := by
  rw [IPL.lcGo_pure enc (fun u => if c u = true then some (f u) else none) hst l fun u hu => by
    cases hc : c u with
    | true => exact ht u hu hc
    | false => exact hf u hu hc]
  congr 2
  clear ht hf
  induction l with
  | nil => rfl
  | cons u l ih =>
    rw [List.filterMap_cons, List.filter_cons, ih]
    cases c u <;> rfl
end
theorem stl_n : still δ xs none = true := rfl
/-! tests -/
theorem tr_i : truth (.int a) = some (a != 0) := rfl
theorem tr_b : truth (.bool b) = some b := rfl
theorem tr_n : truth .none = some false := rfl
theorem t_V {f : Eo} (h : f δ = some (p, δ1)) (h2 : rd δ1 p = some d) (h3 : truth d = some b) : tV f δ = some (b, δ1) := by simp only [tV, h, h2, h3, Option.bind_some, Option.map_some]
theorem t_B {f : Ev} (h : f δ = some (.dat (.bool b), δ1)) : tB f δ = some (b, δ1) := by simp only [tB, h, Option.bind_some]
theorem t_not {f : Et} (h : f δ = some (b, δ1)) : tNot f δ = some (!b, δ1) := by simp only [tNot, h, Option.map_some]
def andT (b : Bool) (g : Et) (δ : Env) : Option (Bool × Env) := if b = true then g δ else some (false, δ)
def orT (b : Bool) (g : Et) (δ : Env) : Option (Bool × Env) := if b = true then some (true, δ) else g δ
theorem andT_t {g : Et} {R : Option (Bool × Env)} (hb : b = true) (h : g δ = R) : andT b g δ = R := by rw [andT, if_pos hb, h]
theorem andT_f {g : Et} (hb : b = false) : andT b g δ = some (false, δ) := by rw [andT, hb]; rfl
theorem orT_t {g : Et} (hb : b = true) : orT b g δ = some (true, δ) := by rw [orT, if_pos hb]
theorem orT_f {g : Et} {R : Option (Bool × Env)} (hb : b = false) (h : g δ = R) : orT b g δ = R := by rw [orT, hb, ← h]; rfl
theorem t_and {f g : Et} (h1 : f δ = some (b, δ1)) (h2 : andT b g δ1 = some (b', δ2)) : tAnd f g δ = some (b', δ2) := by simp only [tAnd, h1, Option.bind_some]; exact h2
theorem t_or {f g : Et} (h1 : f δ = some (b, δ1)) (h2 : orT b g δ1 = some (b', δ2)) : tOr f g δ = some (b', δ2) := by simp only [tOr, h1, Option.bind_some]; exact h2
/-! statements -/
def seqK (o : Out) (g : Es) (δ : Env) : Option (Out × Env) := match o with
  | .nx => g δ
  | o => some (o, δ)
theorem q_nx {g : Es} {R : Option (Out × Env)} (h : g δ = R) : seqK .nx g δ = R := h
theorem q_rt {g : Es} : seqK (.rt r) g δ = some (.rt r, δ) := rfl
theorem q_bk {g : Es} : seqK .bk g δ = some (.bk, δ) := rfl
theorem q_ct {g : Es} : seqK .ct g δ = some (.ct, δ) := rfl
theorem s_seq {f g : Es} (h1 : f δ = some (o, δ1)) (h2 : seqK o g δ1 = some (o', δ2)) : sSeq f g δ = some (o', δ2) := by
  simp only [sSeq, h1, Option.bind_some]
  cases o <;> exact h2
theorem s_pass : sPass δ = some (.nx, δ) := rfl
theorem s_brk : sBreak δ = some (.bk, δ) := rfl
theorem s_cnt : sCont δ = some (.ct, δ) := rfl
theorem s_retN : sRetN δ = some (.rt (.dat .none), δ) := rfl
theorem s_set {f : Ev} (h : f δ = some (r, δ1)) (h1 : slotOf r = s) (h2 : setSlot δ1 i s = some δ2) : sSet i f δ = some (.nx, δ2) := by
  subst h1
  simp only [sSet, h, Option.bind_some, h2, Option.map_some]
theorem s_unp {is : List Nat} {f : Ev} (h : f δ = some (.dat (.tuple ds), δ1)) (h2 : setDs δ1 is ds = some δ2) : sUnp is f δ = some (.nx, δ2) := by
  simp only [sUnp, h, Option.bind_some, h2, Option.map_some]
theorem pe_n : pEvs [] δ = some ([], δ) := rfl
theorem pe_c {f : Ev} {fs : List Ev} {rs : List Res} (h : f δ = some (r, δ1)) (h2 : pEvs fs δ1 = some (rs, δ2)) : pEvs (f :: fs) δ = some (r :: rs, δ2) := by simp only [pEvs, h, h2, Option.bind_some, Option.map_some]
theorem sr_n : setRs δ [] [] = some δ := rfl
theorem sr_c {is : List Nat} {rs : List Res} (h1 : slotOf r = s) (h2 : setSlot δ i s = some δ1) (h3 : setRs δ1 is rs = some δ2) : setRs δ (i :: is) (r :: rs) = some δ2 := by
  subst h1
  simp only [setRs, h2, Option.bind_some, h3]
theorem s_par {is : List Nat} {fs : List Ev} {rs : List Res} (h : pEvs fs δ = some (rs, δ1)) (h2 : setRs δ1 is rs = some δ2) : sPar is fs δ = some (.nx, δ2) := by simp only [sPar, h, Option.bind_some, h2, Option.map_some]
theorem s_ex {f : Ev} (h : f δ = some (r, δ1)) : sEx f δ = some (.nx, δ1) := by simp only [sEx, h, Option.map_some]
theorem s_ret {f : Ev} (h : f δ = some (r, δ1)) : sRet f δ = some (.rt r, δ1) := by simp only [sRet, h, Option.map_some]
def ifK (b : Bool) (f g : Es) (δ : Env) : Option (Out × Env) := if b = true then f δ else g δ
theorem if_t {f g : Es} {R : Option (Out × Env)} (hb : b = true) (h : f δ = R) : ifK b f g δ = R := by rw [ifK, if_pos hb, h]
theorem if_f {f g : Es} {R : Option (Out × Env)} (hb : b = false) (h : g δ = R) : ifK b f g δ = R := by rw [ifK, hb, ← h]; rfl
theorem s_if {t : Et} {f g : Es} (h1 : t δ = some (b, δ1)) (h2 : ifK b f g δ1 = some (o, δ2)) : sIf t f g δ = some (o, δ2) := by simp only [sIf, h1, Option.bind_some]; exact h2
theorem s_appO {f : Ev} (h0 : ownAt δ i = true) (h : f δ = some (r, δ1)) (h2 : r.toD = d) (h3 : δ1[i]? = some (.own xs)) (h4 : xs.length < line) (h5 : δ1.set i (.own (xs ++ [d])) = δ2) : sApp i f δ = some (.nx, δ2) := by
  simp only [sApp, h0, if_true, h, Option.bind_some, withOwn, h3, if_pos h4, Option.map_some, h2, h5]
theorem s_appI {f : Ev} (h0 : ownAt δ i = true) (h : f δ = some (.dat (.int v), δ1)) (h3 : δ1[i]? = some (.own (us.map .int))) (h4 : us.length < line) (h5 : δ1.set i (.own ((us ++ [v]).map .int)) = δ2) : sApp i f δ = some (.nx, δ2) :=
  s_appO h0 h rfl h3 (by simpa using h4) (by rw [← h5, List.map_append]; rfl)
theorem s_augI {op : Int → Int → Int} {f : Eo} (h0 : δ[i]? = some (.dat (.int a))) (h : f δ = some (.val (.int c), δ1)) (h2 : setSlot δ1 i (.dat (.int (op a c))) = some δ2) : sAug i op f δ = some (.nx, δ2) := by
  simp only [sAug, h0, h, Option.bind_some, h2, Option.map_some]
theorem s_for {it : Ei} {g : Tg} {bb : Es} (h : it δ = some ((xs, none), δ1)) (h2 : forGo g bb xs δ1 = some (o, δ2)) : sFor it g bb δ = some (o, δ2) := by
  simp only [sFor, h, Option.bind_some, if_true]
  exact h2
theorem s_while {t : Et} {bb : Es} (h : whileGo t bb turns δ = some (o, δ1)) : sWhile t bb δ = some (o, δ1) := h
theorem s_setIx {ix f : Eo} {m : Nat} (h : f δ = some (.val d, δ1)) (h0 : ownAt δ1 i = true) (h1 : ix δ1 = some (.val (.int (m : Int)), δ2)) (h2 : δ2[i]? = some (.own xs)) (h3 : m < xs.length) (h4 : δ2.set i (.own (xs.set m d)) = δ3) : sSetIx i ix f δ = some (.nx, δ3) := by
  simp only [sSetIx, h, Option.bind_some, h0, if_true, h1, withOwn, h2, ixNn h3, Option.map_some, h4]
def outR : Out → Option Res
  | .nx => some (.dat .none)
  | .rt r => some r
  | _ => none
theorem or_n : outR .nx = some (.dat .none) := rfl
theorem or_r : outR (.rt r) = some r := rfl
theorem fn_v {F : Fn} {δ0 : Env} (hb : F.byRef = false) (hl : ds.length = F.nps) (he : ds.map .dat ++ List.replicate (F.names - F.nps) .un = δ0) (h : F.body δ0 = some (o, δ)) (ho : outR o = some r) : F.run none ds = some (r, none) := by
  subst he
  simp only [Fn.run, hb, hl, if_true, Option.bind_some, h]
  cases o <;> simp only [outR, reduceCtorEq, Option.some.injEq] at ho <;> subst ho <;> rfl
theorem fn_r {F : Fn} {δ0 : Env} (hb : F.byRef = true) (hl : ds.length + 1 = F.nps) (he : .prm xs :: (ds.map .dat ++ List.replicate (F.names - F.nps) .un) = δ0) (h : F.body δ0 = some (o, δ)) (ho : outR o = some r) (h0 : δ[0]? = some (.prm ys)) : F.run (some xs) ds = some (r, some ys) := by
  subst he
  simp only [Fn.run, hb, hl, if_true, Option.bind_some, h]
  cases o <;> simp only [outR, reduceCtorEq, Option.some.injEq] at ho <;> subst ho <;> simp only [Option.bind_some, h0]
/-! booleans -/
theorem bo_nt (h : b = false) : (!b) = true := by rw [h]; rfl
theorem bo_nf (h : b = true) : (!b) = false := by rw [h]; rfl
/-! loops -/
section
variable {σ α : Type}
/-- a loop that goes on with a state; g sets, the body is told by its own turn -/
theorem f_fold {g : Tg} {bb : Es} {enc : α → D} (E : σ → Env → Prop) (f : σ → α → σ) : ∀ (l : List α) (s0 : σ) (δ0 : Env), E s0 δ0 →
    (∀ s u δ, u ∈ l → E s δ → ∃ δ1 δ2 o, g.put (enc u) δ = some δ1 ∧ bb δ1 = some (o, δ2) ∧ (o = .nx ∨ o = .ct) ∧ E (f s u) δ2) →
    ∃ δ', forGo g bb (l.map enc) δ0 = some (.nx, δ') ∧ E (l.foldl f s0) δ'
  | [], s0, δ0, h0, _ => ⟨δ0, rfl, h0⟩
  | u :: l, s0, δ0, h0, h => by
    obtain ⟨δ1, δ2, o, e1, e2, e3, e4⟩ := h s0 u δ0 List.mem_cons_self h0
    obtain ⟨δ', a1, a2⟩ := f_fold E f l (f s0 u) δ2 e4 fun s v δ hv hs => h s v δ (List.mem_cons_of_mem _ hv) hs
    refine ⟨δ', ?_, a2⟩
    rw [List.map_cons, forGo, e1]
    simp only [Option.bind_some, e2]
    rcases e3 with rfl | rfl <;> exact a1
end
end EV
namespace EV
open IP
open PySem (PyData)
section
variable {δ : Env} {s : Slot} {i : Nat} {d : D} {ds : List D} {a c : Int}
theorem or_of {o : Out} {r : Res} (h : outR o = some r) : outR o = some r := h
theorem or_bt {b : Bool} (h : b = true) : outR (.rt (.dat (.bool b))) = some (.dat (.bool true)) := by rw [h]; rfl
theorem prop_of {p : Prop} (h : p) : p := h
theorem get_of (h : δ[i]? = some s) : δ[i]? = some s := h
theorem any_of {os : List Opd} (h : anyAt os = false) : anyAt os = false := h
theorem nol_of (h : noList d = true) : noList d = true := h
theorem line_of {n : Nat} (h : n ≤ 16000000) : n ≤ line := h
theorem line_lt {n : Nat} (h : n < 16000000) : n < line := h
theorem bne_t (h : a ≠ c) : (a != c) = true := by simpa using h
theorem bne_f (h : a = c) : (a != c) = false := by simpa using h
theorem sz_nil : ([] : List D).length ≤ line := by decide
theorem sz_le (h : ds.length ≤ 16000000) : ds.length ≤ line := h
theorem noT {us : List Int} : noList (iT us) = true := by
  simp only [noList]
  induction us with
  | nil => rfl
  | cons u us ih => simpa [noListAll] using ih
theorem noI : noList (.int a) = true := rfl
theorem noB {b : Bool} : noList (.bool b) = true := rfl
theorem noN : noList .none = true := rfl
end
end EV
namespace EV
open IP
open PySem (PyData)
section
variable {δ δ1 δ2 : Env} {s t : Slot} {o : Out}
/-- a slot that a name may be set in -/
def Free (s : Slot) : Prop := s = .un ∨ ∃ d, s = .dat d
theorem fr_u : Free .un := .inl rfl
theorem fr_d {d : D} : Free (.dat d) := .inr ⟨d, rfl⟩
theorem st_0f (h : Free t) : setSlot (t :: δ) 0 s = some (s :: δ) := by rcases h with rfl | ⟨d, rfl⟩ <;> rfl
def Step (g : Tg) (bb : Es) (x : D) (δ : Env) (P : Env → Prop) : Prop := ∃ δ1 δ2 o, g.put x δ = some δ1 ∧ bb δ1 = some (o, δ2) ∧ (o = .nx ∨ o = .ct) ∧ P δ2
theorem st_nx {g : Tg} {bb : Es} {x : D} {P : Env → Prop} (h1 : g.put x δ = some δ1) (h2 : bb δ1 = some (.nx, δ2)) (h4 : P δ2) : Step g bb x δ P := ⟨δ1, δ2, .nx, h1, h2, .inl rfl, h4⟩
theorem st_ct {g : Tg} {bb : Es} {x : D} {P : Env → Prop} (h1 : g.put x δ = some δ1) (h2 : bb δ1 = some (.ct, δ2)) (h4 : P δ2) : Step g bb x δ P := ⟨δ1, δ2, .ct, h1, h2, .inr rfl, h4⟩
/-- a loop whose turns carry a state, kept within P -/
theorem f_loop {σ α : Type} {g : Tg} {bb : Es} {enc : α → D} (E : σ → Slot → Env) (f : σ → α → σ) (P : σ → Prop) : ∀ (l : List α) (s0 : σ) (t0 : Slot), Free t0 → P s0 →
    (∀ s u t, u ∈ l → Free t → P s → P (f s u) ∧ Step g bb (enc u) (E s t) fun δ => ∃ t', Free t' ∧ δ = E (f s u) t') →
    ∃ t', Free t' ∧ P (l.foldl f s0) ∧ forGo g bb (l.map enc) (E s0 t0) = some (.nx, E (l.foldl f s0) t')
  | [], s0, t0, ht, h0, _ => ⟨t0, ht, h0, rfl⟩
  | u :: l, s0, t0, ht, h0, h => by
    obtain ⟨hp, δ1, δ2, o, e1, e2, e3, t1, ht1, rfl⟩ := h s0 u t0 List.mem_cons_self ht h0
    obtain ⟨t', a1, a2, a3⟩ := f_loop E f P l (f s0 u) t1 ht1 hp fun s v t hv ht hs => h s v t (List.mem_cons_of_mem _ hv) ht hs
    refine ⟨t', a1, a2, ?_⟩
    rw [List.map_cons, forGo, e1]
    simp only [Option.bind_some, e2]
    rcases e3 with rfl | rfl <;> exact a3
/-- the turns of a while, as many as m, ahead of one more look -/
theorem w_loop {σ : Type} {t : Et} {bb : Es} (E : σ → Env) (f : σ → σ) : ∀ (m fuel : Nat) (s0 : σ), m < fuel →
    (∀ k, k < m → ∃ δ1, t (E (Nat.repeat f k s0)) = some (true, δ1) ∧ bb δ1 = some (.nx, E (Nat.repeat f (k + 1) s0))) →
    (∃ δ1, t (E (Nat.repeat f m s0)) = some (false, δ1) ∧ δ1 = E (Nat.repeat f m s0)) → whileGo t bb fuel (E s0) = some (.nx, E (Nat.repeat f m s0))
  | 0, 0, _, h, _, _ => by omega
  | 0, fuel + 1, s0, _, _, ⟨δ1, h1, h2⟩ => by
    subst h2
    rw [whileGo]
    simp only [Nat.repeat] at h1 ⊢
    rw [h1]
    rfl
  | m + 1, 0, s0, h, _, _ => by omega
  | m + 1, fuel + 1, s0, h, hs, he => by
    have hr : ∀ k, Nat.repeat f k (f s0) = Nat.repeat f (k + 1) s0 := by
      intro k
      induction k with
      | zero => rfl
      | succ k ih => rw [Nat.repeat, ih]; rfl
    obtain ⟨δ1, e1, e2⟩ := hs 0 (by omega)
    have ih := w_loop E f m fuel (f s0) (by omega) (fun k hk => by rw [hr, hr]; exact hs (k + 1) (by omega)) (by rw [hr]; exact he)
    rw [whileGo]
    simp only [Nat.repeat] at e1 e2
    rw [e1]
    simp only [Option.bind_some, if_true, e2]
    rw [ih, hr]
/-! literal lists -/
theorem ix2 {a b k : Int} (h : 0 ≤ k ∧ k < 2) : ∃ v, bIx (.list [.int a, .int b]) (.int k) = some (.dat (.int v)) ∧ (v = a ∨ v = b) := by
  have : k = 0 ∨ k = 1 := by omega
  rcases this with rfl | rfl
  · exact ⟨a, rfl, .inl rfl⟩
  · exact ⟨b, rfl, .inr rfl⟩
theorem ix3 {a b c k : Int} (h : 0 ≤ k ∧ k < 3) : ∃ v, bIx (.list [.int a, .int b, .int c]) (.int k) = some (.dat (.int v)) ∧ (v = a ∨ v = b ∨ v = c) := by
  have : k = 0 ∨ k = 1 ∨ k = 2 := by omega
  rcases this with rfl | rfl | rfl
  · exact ⟨a, rfl, .inl rfl⟩
  · exact ⟨b, rfl, .inr (.inl rfl)⟩
  · exact ⟨c, rfl, .inr (.inr rfl)⟩
theorem p_pow {a b v : Int} (h : 0 ≤ b ∧ b ≤ 1000000 ∧ a.natAbs < 2 ^ 64) (hv : a ^ b.toNat = v) : bPow (.int a) (.int b) = some (.dat (.int v)) := by rw [bPow, if_pos h, hv]
theorem p_pow18 : bPow (.int 10) (.int 18) = some (.dat (.int 1000000000000000000)) := p_pow ⟨by decide, by decide, by decide⟩ (by decide +kernel)
theorem p_pow17 : bPow (.int 10) (.int 17) = some (.dat (.int 100000000000000000)) := p_pow ⟨by decide, by decide, by decide⟩ (by decide +kernel)
theorem p_pow12 : bPow (.int 10) (.int 12) = some (.dat (.int 1000000000000)) := p_pow ⟨by decide, by decide, by decide⟩ (by decide +kernel)
theorem p_pow15 : bPow (.int 10) (.int 15) = some (.dat (.int 1000000000000000)) := p_pow ⟨by decide, by decide, by decide⟩ (by decide +kernel)
theorem p_pow60 : bPow (.int 10) (.int 60) = some (.dat (.int 1000000000000000000000000000000000000000000000000000000000000)) := p_pow ⟨by decide, by decide, by decide⟩ (by decide +kernel)
end
end EV
namespace EV
open IP
open PySem (PyData)
section
variable {us vs : List Int} {v a : Int} {ds : List D}
theorem cut_to1 : cutR (iT us) none (some 1) = some (.dat (iT (us.take 1))) := cut_toT (a := 1)
theorem cut_to1L : cutR (iL us) none (some 1) = some (.new ((us.take 1).map .int)) := cut_toL (a := 1)
theorem cut_fr1 : cutR (iT us) (some 1) none = some (.dat (iT (us.drop 1))) := cut_frT (a := 1)
theorem cut_fr1L : cutR (iL us) (some 1) none = some (.new ((us.drop 1).map .int)) := cut_frL (a := 1)
theorem cut_toI (h : 0 ≤ v) : cutR (iT us) none (some v) = some (.dat (iT (us.take v.toNat))) := by
  obtain ⟨a, rfl⟩ : ∃ a : Nat, (a : Int) = v := ⟨v.toNat, by omega⟩
  exact cut_toT
theorem cut_frI (h : 0 ≤ v) : cutR (iT us) (some v) none = some (.dat (iT (us.drop v.toNat))) := by
  obtain ⟨a, rfl⟩ : ∃ a : Nat, (a : Int) = v := ⟨v.toNat, by omega⟩
  exact cut_frT
theorem is_ii : uIs [.int] (.int a) = some (.dat (.bool true)) := rfl
theorem is_bi : uIs [.bool] (.int a) = some (.dat (.bool false)) := rfl
theorem is_tt : uIs [.tuple] (.tuple ds) = some (.dat (.bool true)) := rfl
theorem is_tl : uIs [.tuple] (.list ds) = some (.dat (.bool false)) := rfl
theorem is_lt : uIs [.list] (.tuple ds) = some (.dat (.bool false)) := rfl
theorem is_ll : uIs [.list] (.list ds) = some (.dat (.bool true)) := rfl
theorem uisn : uIsN .none = some (.dat (.bool true)) := rfl
theorem uisn_i : uIsN (.int a) = some (.dat (.bool false)) := rfl
theorem uisn_t : uIsN (.tuple ds) = some (.dat (.bool false)) := rfl
theorem unn : uNotN .none = some (.dat (.bool false)) := rfl
theorem unn_i : uNotN (.int a) = some (.dat (.bool true)) := rfl
theorem unn_t : uNotN (.tuple ds) = some (.dat (.bool true)) := rfl
/-- an index that is told as an integer -/
theorem p_ix0 (h : 0 < us.length) : bIx (iT us) (.int 0) = some (.dat (.int (us.getD 0 0))) := p_ixT (m := 0) h
end
end EV
namespace EV
open IP
theorem b_len2 {x y : D} : biLen [.tuple [x, y]] = some (.dat (.int 2)) := rfl
theorem b_len3 {x y z : D} : biLen [.tuple [x, y, z]] = some (.dat (.int 3)) := rfl
end EV
namespace EV
open IP
open PySem (PyData)
section
variable {us vs : List Int} {v a k b : Int} {ds : List D} {δ δ1 δ2 δ3 : Env} {i n m : Nat}
abbrev encE (us : List Int) (k : Nat) : D := .tuple [.int (k : Int), .int (us.getD k 0)]
theorem enumD_ints (us : List Int) : enumD 0 (us.map .int) = (List.range us.length).map (encE us) := by
  rw [IPL.enumD_eq]
  simp only [List.length_map]
  apply List.map_congr_left
  intro k hk
  have := List.mem_range.mp hk
  simp [encE, List.getD, this]
theorem i_enT {f : Eo} (h : f δ = some (.val (iT us), δ1)) : iEnum f δ = some (((List.range us.length).map (encE us), none), δ1) := by simp [iEnum, h, enumD_ints]
theorem i_enL {f : Eo} (h : f δ = some (.val (iL us), δ1)) : iEnum f δ = some (((List.range us.length).map (encE us), none), δ1) := by simp [iEnum, h, enumD_ints]
theorem downD_rev (n : Nat) : downD ((n : Int) - 1) n = (List.range n).reverse.map encN := by
  unfold downD
  apply List.ext_getElem
  · simp
  · intro i h1 h2
    simp at h1 h2
    simp only [List.getElem_map, List.getElem_range, List.getElem_reverse, List.length_range, encN]
    congr 1
    omega
theorem iRevR1_s (f : Eo) (δ : Env) : iRevR1 f δ = (f δ).bind fun p => match p.1 with
    | .val (.int j) => if small60 j = true then some ((downD ((j.toNat : Int) - 1) j.toNat, none), p.2) else none
    | _ => none := by
  unfold iRevR1 small60
  congr 1
  funext p
  obtain ⟨o, e⟩ := p
  cases o with
  | val d => cases d <;> simp only [decide_eq_true_eq]
  | «at» i => rfl
theorem iRevR1_at {f : Eo} {j : Int} (h : f δ = some (.val (.int j), δ1)) (h2 : small60 j = true) : iRevR1 f δ = some ((downD ((j.toNat : Int) - 1) j.toNat, none), δ1) := by
  rw [iRevR1_s, h]
  simp only [Option.bind_some]
  rw [if_pos h2]
theorem i_rr1 {f : Eo} (h : f δ = some (.val (.int (n : Int)), δ1)) (h2 : n ≤ 1000000000) : iRevR1 f δ = some (((List.range n).reverse.map encN, none), δ1) := by
  have e := iRevR1_at h (small60_of (show -1000000000 ≤ (n : Int) ∧ (n : Int) ≤ 1000000000 from ⟨by omega, by omega⟩))
  rw [Int.toNat_natCast, downD_rev] at e
  exact e
theorem s_setIxI {ix f : Eo} (h : f δ = some (.val (.int v), δ1)) (h0 : ownAt δ1 i = true) (h1 : ix δ1 = some (.val (.int k), δ2)) (h2 : δ2[i]? = some (.own (us.map .int))) (h3 : 0 ≤ k ∧ k < us.length) (h4 : δ2.set i (.own ((us.set k.toNat v).map .int)) = δ3) : sSetIx i ix f δ = some (.nx, δ3) := by
  obtain ⟨m, rfl⟩ : ∃ m : Nat, (m : Int) = k := ⟨k.toNat, by omega⟩
  exact s_setIx h h0 h1 h2 (by simp; omega) (by rw [← h4, Int.toNat_natCast, List.map_set])
theorem s_setIxN {ix f : Eo} (h : f δ = some (.val (.int v), δ1)) (h0 : ownAt δ1 i = true) (h1 : ix δ1 = some (.val (.int (m : Int)), δ2)) (h2 : δ2[i]? = some (.own (us.map .int))) (h3 : m < us.length) (h4 : δ2.set i (.own ((us.set m v).map .int)) = δ3) : sSetIx i ix f δ = some (.nx, δ3) :=
  s_setIx h h0 h1 h2 (by simpa using h3) (by rw [← h4, List.map_set])
theorem s_augIxN {ix f : Eo} {op : Int → Int → Int} (h0 : ownAt δ i = true) (h1 : ix δ = some (.val (.int (m : Int)), δ1)) (h2 : δ1[i]? = some (.own (us.map .int))) (h3 : f δ1 = some (.val (.int b), δ2)) (h4 : δ2[i]? = some (.own (us.map .int))) (hk : m < us.length) (h5 : δ2.set i (.own ((us.set m (op (us.getD m 0) b)).map .int)) = δ3) : sAugIx i ix op f δ = some (.nx, δ3) := by
  have hg : ownGet δ1 i (m : Int) = some (.int (us.getD m 0)) := by
    simp only [ownGet, h2, atD, List.length_map, ixNn hk, Option.bind_some]
    rw [List.getElem?_map, List.getElem?_eq_getElem hk]
    simp [List.getD, hk]
  simp only [sAugIx, h0, if_true, h1, Option.bind_some, hg, h3, withOwn, h4, List.length_map, ixNn hk, Option.map_some]
  rw [← h5, List.map_set]
theorem s_pop (h : δ[i]? = some (.own (us.map .int))) (h2 : us ≠ []) (h3 : δ.set i (.own (us.dropLast.map .int)) = δ1) : sPop i δ = some (.nx, δ1) := by
  have : (us.map PyData.int).isEmpty = false := by cases us <;> simp_all
  simp only [sPop, withOwn, h, this, Option.map_some, ← h3, List.map_dropLast]
  rfl
theorem flat_rep (m : Nat) : (List.replicate m [PyData.int a]).flatten = (List.replicate m a).map PyData.int := by
  induction m with
  | zero => rfl
  | succ m ih => rw [List.replicate_succ, List.flatten_cons, ih]; rfl
theorem small63 {k : Int} (h : k ≤ 10000000) (h2 : -10000000 ≤ k) : -(2 ^ 63) ≤ k ∧ k < 2 ^ 63 := by omega
theorem small62 {k : Int} (h : k ≤ 10000000) (h2 : -10000000 ≤ k) : -(2 ^ 62) ≤ k ∧ k ≤ 2 ^ 62 := by omega
theorem p_repL (h : k ≤ 10000000) (h2 : -10000000 ≤ k) : bMul (.list [.int a]) (.int k) = some (.new ((List.replicate k.toNat a).map .int)) := by
  have hl : ([PyData.int a] : List D).length * k.toNat ≤ line := by
    show 1 * k.toNat ≤ 16000000
    omega
  rw [bMul, if_pos ⟨(small63 h h2).1, (small63 h h2).2, hl⟩, flat_rep]
theorem p_repT (h : k ≤ 10000000) (h2 : -10000000 ≤ k) : bMul (.tuple [.int a]) (.int k) = some (.dat (iT (List.replicate k.toNat a))) := by
  have hl : ([PyData.int a] : List D).length * k.toNat ≤ line := by
    show 1 * k.toNat ≤ 16000000
    omega
  rw [bMul, if_pos ⟨(small62 h h2).1, (small62 h h2).2, hl⟩, flat_rep]
theorem tr_T : truth (iT us) = some (decide (us ≠ [])) := by cases us <;> simp [truth]
theorem tr_L : truth (iL us) = some (decide (us ≠ [])) := by cases us <;> simp [truth]
theorem cut_last1 : cutR (iT us) (some (-1)) none = some (.dat (iT (us.drop (us.length - 1)))) := by
  simp only [cutR, cutD, Option.some.injEq, Res.dat.injEq, PyData.tuple.injEq]
  rw [show clampIx (us.map PyData.int).length (us.map PyData.int).length none = (us.map PyData.int).length from rfl, ← List.map_drop, List.take_of_length_le (by simp)]
  congr 2
  simp [clampIx]
  omega
theorem cut_last1L : cutR (iL us) (some (-1)) none = some (.new ((us.drop (us.length - 1)).map .int)) := by
  have := cut_last1 (us := us)
  simp only [cutR, Option.some.injEq, Res.dat.injEq, PyData.tuple.injEq] at this
  simp only [cutR, this]
theorem p_ixLastT (h : us ≠ []) : bIx (iT us) (.int (-1)) = some (.dat (.int (us.getD (us.length - 1) 0))) := by
  have hl : 0 < us.length := List.length_pos_iff.mpr h
  have h1 : IP.ixN us.length (-1) = some (us.length - 1) := by
    unfold IP.ixN
    rw [if_neg (by omega), if_pos (by omega)]
    congr 1
    omega
  simp only [bIx, atD, List.length_map, h1, Option.bind_some, List.getElem?_map]
  rw [List.getElem?_eq_getElem (by omega)]
  simp [List.getD, show us.length - 1 < us.length by omega]
end
end EV
namespace EV
open IP
open PySem (PyData)
section
variable {us : List Int} {δ : Env} {i n : Nat}
theorem stl_o (h : δ[i]? = some (.own (us.map .int))) : still δ (us.map .int) (some i) = true := by
  simp only [still, h, slotD, IPL.same_ints]
theorem l_intR {vs : List Nat} {g : Tg} {e : Ev} {src : List D} {ow : Option Nat} {enc : Nat → D} {f : Nat → Int} (h : ∀ u, u < n → IPL.lcTurn vs g tYes e (enc u) δ = some (some (.int (f u)), δ)) (hst : still δ src ow = true) : lcGo vs g tYes e src ow ((List.range n).map enc) δ = some (((List.range n).map f).map .int, δ) :=
  l_int (fun u hu => h u (List.mem_range.mp hu)) hst
theorem f_inv {α : Type} {g : Tg} {bb : Es} {enc : α → D} (Q : Nat → Env → Prop) : ∀ (l : List α) (k : Nat) (δ0 : Env), Q k δ0 →
    (∀ i u δ, l[i]? = some u → Q (k + i) δ → Step g bb (enc u) δ (Q (k + i + 1))) → ∃ δ', forGo g bb (l.map enc) δ0 = some (.nx, δ') ∧ Q (k + l.length) δ'
  | [], k, δ0, h0, _ => ⟨δ0, rfl, h0⟩
  | u :: l, k, δ0, h0, h => by
    obtain ⟨δ1, δ2, o, e1, e2, e3, e4⟩ := h 0 u δ0 rfl h0
    obtain ⟨δ', a1, a2⟩ := f_inv Q l (k + 1) δ2 e4 fun i v δ hv hq => by
      have := h (i + 1) v δ (by simpa using hv) (by rw [show k + (i + 1) = k + 1 + i by omega]; exact hq)
      rw [show k + (i + 1) + 1 = k + 1 + i + 1 by omega] at this
      exact this
    refine ⟨δ', ?_, by rw [List.length_cons, show k + (l.length + 1) = k + 1 + l.length by omega]; exact a2⟩
    rw [List.map_cons, forGo, e1]
    simp only [Option.bind_some, e2]
    rcases e3 with rfl | rfl <;> exact a1
/-- a loop over 0 .. n - 1 -/
theorem f_range {g : Tg} {bb : Es} {enc : Nat → D} (Q : Nat → Env → Prop) (n : Nat) (δ0 : Env) (h0 : Q 0 δ0) (h : ∀ k δ, k < n → Q k δ → Step g bb (enc k) δ (Q (k + 1))) :
    ∃ δ', forGo g bb ((List.range n).map enc) δ0 = some (.nx, δ') ∧ Q n δ' := by
  obtain ⟨δ', a, b⟩ := f_inv (enc := enc) (g := g) (bb := bb) Q (List.range n) 0 δ0 h0 fun i u δ hi hq => by
    have hl : i < n := by
      rcases Nat.lt_or_ge i n with h | h
      · exact h
      · rw [List.getElem?_eq_none (by simpa using h)] at hi
        cases hi
    rw [List.getElem?_range hl] at hi
    cases hi
    rw [Nat.zero_add] at hq ⊢
    exact h _ δ hl hq
  rw [List.length_range, Nat.zero_add] at b
  exact ⟨δ', a, b⟩
end
end EV
namespace EV
open IP
theorem p_ixDT {ds : List D} {k : Nat} (h : k < ds.length) : bIx (.tuple ds) (.int (k : Int)) = some (.dat (ds.getD k .none)) := by
  simp only [bIx, atD, ixNn h, Option.bind_some]
  rw [List.getElem?_eq_getElem h]
  simp [List.getD, h]
theorem p_ixDL {ds : List D} {k : Nat} (h : k < ds.length) : bIx (.list ds) (.int (k : Int)) = some (.dat (ds.getD k .none)) := by
  simp only [bIx, atD, ixNn h, Option.bind_some]
  rw [List.getElem?_eq_getElem h]
  simp [List.getD, h]
theorem p_ix20 {x y : D} : bIx (.tuple [x, y]) (.int 0) = some (.dat x) := rfl
theorem p_ix21 {x y : D} : bIx (.tuple [x, y]) (.int 1) = some (.dat y) := rfl
/-- what _law_alike takes for like itself -/
def okA : Nat → D → Bool
  | _, .int _ => true
  | _, .none => true
  | _, .bool _ => true
  | k + 1, .tuple ds => decide (ds.length ≤ 1000000) && ds.all (okA k)
  | k + 1, .list ds => decide (ds.length ≤ 1000000) && ds.all (okA k)
  | _, _ => false
theorem okA_row {k : Nat} {us : List Int} (h : us.length ≤ 1000000) : okA (k + 1) (iT us) = true := by
  simp only [okA, List.length_map, decide_eq_true h, Bool.true_and, List.all_map, List.all_eq_true]
  intro u _
  cases k <;> rfl
theorem okA_rowL {k : Nat} {us : List Int} (h : us.length ≤ 1000000) : okA (k + 1) (iL us) = true := by
  simp only [okA, List.length_map, decide_eq_true h, Bool.true_and, List.all_map, List.all_eq_true]
  intro u _
  cases k <;> rfl
end EV
namespace EV
open IP
open PySem (PyData)
theorem p_shrN {e k : Nat} : bShr (.int (e : Int)) (.int (k : Int)) = some (.dat (.int ((e / 2 ^ k : Nat) : Int))) := by
  rw [bShr, if_pos (by omega), Int.toNat_natCast]
  congr 3
theorem p_and1 {m : Nat} : bAnd (.int (m : Int)) (.int 1) = some (.dat (.int ((m % 2 : Nat) : Int))) := by
  rw [bAnd, if_pos ⟨by omega, by omega⟩, Int.toNat_natCast, show (1 : Int).toNat = 1 from rfl, Nat.and_one_is_mod]
/-- bit_length -/
def bl (e : Nat) : Nat := if e = 0 then 0 else e.log2 + 1
theorem bl_lt (e : Nat) : e < 2 ^ bl e := by
  unfold bl
  split
  · omega
  · exact Nat.lt_log2_self
theorem bl_le {e n : Nat} (h : e < 2 ^ n) : bl e ≤ n := by
  unfold bl
  split
  · omega
  · rename_i h0
    have := (Nat.log2_lt h0).mpr h
    omega
theorem p_bitsN {e : Nat} : uBits (.int (e : Int)) = some (.dat (.int ((bl e : Nat) : Int))) := by
  simp only [uBits, bl, Int.natAbs_natCast, Int.natCast_eq_zero]
end EV
namespace EV
open IP
section
variable {us : List Int} {k : Nat} {v : Int}
theorem ixNneg {n k : Nat} (h : k < n) : IP.ixN n (-1 - (k : Int)) = some (n - 1 - k) := by
  unfold IP.ixN
  rw [if_neg (by omega), if_pos (by omega)]
  congr 1
  omega
theorem p_ixNegT (h : k < us.length) : bIx (iT us) (.int (-1 - (k : Int))) = some (.dat (.int (us.getD (us.length - 1 - k) 0))) := by
  simp only [bIx, atD, List.length_map, ixNneg h, Option.bind_some, List.getElem?_map]
  rw [List.getElem?_eq_getElem (by omega)]
  simp [List.getD, show us.length - 1 - k < us.length by omega]
theorem p_ixNegL (h : k < us.length) : bIx (iL us) (.int (-1 - (k : Int))) = some (.dat (.int (us.getD (us.length - 1 - k) 0))) := by
  simp only [bIx, atD, List.length_map, ixNneg h, Option.bind_some, List.getElem?_map]
  rw [List.getElem?_eq_getElem (by omega)]
  simp [List.getD, show us.length - 1 - k < us.length by omega]
theorem p_addsL (h : 1 + us.length ≤ 16000000) : bAdd (.list [.int v]) (iL us) = some (.new ((v :: us).map .int)) := by
  have := p_addL (us := [v]) (vs := us) (by simpa using h)
  simpa using this
theorem p_tupRev : uTupRev (iL us) = some (.dat (iT us.reverse)) := by simp only [uTupRev, ← List.map_reverse]
end
end EV
namespace EV
open IP
theorem p_ix30 {x y z : D} : bIx (.tuple [x, y, z]) (.int 0) = some (.dat x) := rfl
theorem p_ix31 {x y z : D} : bIx (.tuple [x, y, z]) (.int 1) = some (.dat y) := rfl
theorem p_ix32 {x y z : D} : bIx (.tuple [x, y, z]) (.int 2) = some (.dat z) := rfl

end EV
end
section
set_option linter.all false
/-! Ev2: more rules. -/
namespace EV
open IP
open PySem (PyData)
section
variable {us : List Int} {δ δ1 δ2 δ3 δ4 : Env} {xs ys : List D}
theorem b_sum2L : biSum2 [iL us] = some (.dat (.int us.sum)) := by simp only [biSum2, IPL.intsOf_map, Option.map_some]
theorem b_sum2T : biSum2 [iT us] = some (.dat (.int us.sum)) := by simp only [biSum2, IPL.intsOf_map, Option.map_some]
theorem e_lc2 {vs vs1 : List Nat} {it it1 : Ei} {g g1 : Tg} {t t1 : Et} {e : Ev} {ow : Option Nat} (h1 : it δ = some ((xs, ow), δ1)) (h2 : unAll vs δ1 = some δ2) (h4 : lc2Go vs vs1 g t it1 g1 t1 e xs ow xs δ2 = some (ys, δ3)) (h3 : ys.length ≤ line) (h5 : backAll δ1 vs δ3 = δ4) : vLc2 vs vs1 it g t it1 g1 t1 e δ = some (.new ys, δ4) := by
  simp only [vLc2, h1, h2, Option.bind_some]
  rw [h4, ← h5]
  simp only [Option.bind_some, if_pos h3]
/-- one turn of the outer for; without effect -/
def lc2Turn (vs vs1 : List Nat) (g : Tg) (t : Et) (it1 : Ei) (g1 : Tg) (t1 : Et) (e : Ev) (x : D) (δ : Env) (r : List D) : Prop :=
  ∃ δ1 δ2 b, g.put x δ = some δ1 ∧ t δ1 = some (b, δ2) ∧ ((b = true ∧ ∃ ys ow δ3 δ4 δ5, it1 δ2 = some ((ys, ow), δ3) ∧ unAll vs1 δ3 = some δ4 ∧ lcGo vs1 g1 t1 e ys ow ys δ4 = some (r, δ5) ∧ unAll vs δ5 = some δ) ∨ (b = false ∧ r = [] ∧ unAll vs δ2 = some δ))
theorem l2_go {α : Type} {vs vs1 : List Nat} {g g1 : Tg} {t t1 : Et} {it1 : Ei} {e : Ev} {src : List D} {ow : Option Nat} {enc : α → D} {f : α → List D} (hst : still δ src ow = true) : ∀ (l : List α), (∀ u ∈ l, lc2Turn vs vs1 g t it1 g1 t1 e (enc u) δ (f u)) →
    lc2Go vs vs1 g t it1 g1 t1 e src ow (l.map enc) δ = some ((l.map f).flatten, δ)
  | [], _ => by
    rw [List.map_nil, lc2Go, if_pos hst]
    rfl
  | u :: l, h => by
    have ih := l2_go (vs := vs) (vs1 := vs1) (g := g) (g1 := g1) (t := t) (t1 := t1) (it1 := it1) (e := e) (enc := enc) (f := f) hst l fun v hv => h v (List.mem_cons_of_mem _ hv)
    obtain ⟨δ1, δ2, b, e1, e2, e3⟩ := h u List.mem_cons_self
    rw [List.map_cons, lc2Go, if_pos hst, e1]
    simp only [Option.bind_some, e2]
    rcases e3 with ⟨rfl, ys, ow, δ3, δ4, δ5, a1, a2, a3, a4⟩ | ⟨rfl, hr, a1⟩
    · simp only [if_true, a1, Option.bind_some, a2, a3, a4, ih, Option.map_some, List.map_cons, List.flatten_cons]
    · simp only [Bool.false_eq_true, if_false, a1, Option.bind_some, ih, List.map_cons, List.flatten_cons, hr, List.nil_append]
theorem l2_y {vs vs1 : List Nat} {g g1 : Tg} {t1 : Et} {it1 : Ei} {e : Ev} {x : D} {r : List D} {ow : Option Nat} {δ5 : Env} (h1 : g.put x δ = some δ1) (h2 : it1 δ1 = some ((ys, ow), δ2)) (h3 : unAll vs1 δ2 = some δ3) (h4 : lcGo vs1 g1 t1 e ys ow ys δ3 = some (r, δ5)) (h5 : unAll vs δ5 = some δ) : lc2Turn vs vs1 g tYes it1 g1 t1 e x δ r :=
  ⟨δ1, δ1, true, h1, rfl, .inl ⟨rfl, ys, ow, δ2, δ3, δ5, h2, h3, h4, h5⟩⟩
theorem t_notV {f : Eo} {p : Opd} {d : D} {b : Bool} (h : f δ = some (p, δ1)) (h2 : rd δ1 p = some d) (h3 : truth d = some b) : tNot (tV f) δ = some (!b, δ1) := t_not (t_V h h2 h3)
end
end EV
end
section
set_option linter.all false
/-! Ev3: rules for objects. -/
namespace EV
open IP
open PySem (PyData)
section
variable {δ δ1 δ2 δ3 : Env} {i j k : Nat} {d x a b c e : D} {r : Res} {os : List Opd} {ds fs gs hs : List D} {us : List Int}
theorem gP (h : δ[i]? = some (.pob fs)) : obAt δ i = some fs := by simp [obAt, h]
theorem gO (h : δ[i]? = some (.obj fs)) : obAt δ i = some fs := by simp [obAt, h]
theorem pP (h : δ[i]? = some (.pob fs)) (h2 : δ.set i (.pob gs) = δ1) : obPut δ i gs = δ1 := by simp [obPut, h, h2]
theorem pO (h : δ[i]? = some (.obj fs)) (h2 : δ.set i (.obj gs) = δ1) : obPut δ i gs = δ1 := by simp [obPut, h, h2]
theorem e_fld (h : obAt δ i = some fs) (hk : (k == 1) = false) (h2 : fs[k]? = some d) : vFld i k δ = some (.dat d, δ) := by
  have : ¬ k = 1 := by simpa using hk
  simp only [vFld, if_neg this, h, Option.bind_some, h2, Option.map_some]
theorem e_flen (h : obAt δ i = some [a, .list (us.map .int), b, c, d, e]) : vFLen i δ = some (.dat (.int us.length), δ) := by
  simp only [vFLen, h, Option.bind_some, rowOf, Option.map_some, List.length_map]
theorem e_ftup (h : obAt δ i = some [a, .list ds, b, c, d, e]) : vFTup i δ = some (.dat (.tuple ds), δ) := by
  simp only [vFTup, h, Option.bind_some, rowOf, Option.map_some]
theorem e_fix {m : Int} (h : obAt δ i = some [a, .list (us.map .int), b, c, d, e]) (hj : δ[j]? = some (.dat (.int m))) (h2 : bIx (.list (us.map .int)) (.int (-m)) = some r) : vFIx i j δ = some (r, δ) := by
  simp only [vFIx, h, Option.bind_some, rowOf, hj]
  simp only [bIx, Option.map_eq_some_iff] at h2
  obtain ⟨z, h3, rfl⟩ := h2
  rw [h3]
  rfl
theorem s_fld {f : Ev} (h : f δ = some (r, δ1)) (h2 : r.toD = d) (hk : (k == 1) = false) (h3 : obAt δ1 i = some fs) (hl : decide (k < fs.length) = true) (h4 : fs.set k d = gs) (h5 : obPut δ1 i gs = δ2) : sFld i k f δ = some (.nx, δ2) := by
  have hk' : ¬ k = 1 := by simpa using hk
  have hl' : k < fs.length := by simpa using hl
  subst h2 h4
  simp only [sFld, if_neg hk', h, Option.bind_some, h3, if_pos hl', h5]
theorem s_faug {op : Int → Int → Int} {f : Eo} {m n : Int} (h0 : obAt δ i = some fs) (hk : (k == 1) = false) (h1 : fs[k]? = some (.int m)) (h : f δ = some (.val (.int n), δ1)) (h3 : obAt δ1 i = some gs) (hl : decide (k < gs.length) = true) (h4 : gs.set k (.int (op m n)) = hs) (h5 : obPut δ1 i hs = δ2) : sFAug i k op f δ = some (.nx, δ2) := by
  have hk' : ¬ k = 1 := by simpa using hk
  have hl' : k < gs.length := by simpa using hl
  subst h4
  simp only [sFAug, if_neg hk', h0, Option.bind_some, h1, h, h3, if_pos hl', h5]
theorem s_fapp {m : Int} (h : obAt δ i = some [a, .list (us.map .int), b, c, d, e]) (hj : δ[j]? = some (.dat (.int m))) (hl : us.length < 16000000) (h5 : obPut δ i [a, .list ((us ++ [m]).map .int), b, c, d, e] = δ2) : sFApp i j δ = some (.nx, δ2) := by
  have hl' : (us.map PyData.int).length < line := by
    rw [List.length_map]
    exact hl
  simp only [sFApp, h, Option.bind_some, hj, rowPut, if_pos hl', Option.map_some]
  rw [List.map_append] at h5
  simp only [List.map_cons, List.map_nil] at h5
  rw [h5]
theorem e_meth {c : Fnc} {f : Ea} (h0 : obAt δ i = some hs) (h1 : f δ = some (os, δ1)) (h2 : vals os = some ds) (h3 : obAt δ1 i = some fs) (h4 : c (some fs) ds = some (r, some gs)) (h5 : obPut δ1 i gs = δ2) : vMeth c i f δ = some (r, δ2) := by
  simp only [vMeth, h0, h1, h2, h3, h4, h5, Option.bind_some]
theorem s_callN {c : Fnc} {f : Ea} (h1 : f δ = some (os, δ1)) (h2 : vals os = some ds) (h4 : c none ds = some (r, some fs)) (h5 : setSlot δ1 i (.obj fs) = some δ2) : sCallN i c f δ = some (.nx, δ2) := by
  simp only [sCallN, h1, h2, h4, h5, Option.bind_some, Option.map_some]
theorem e_callNF {c : Fnc} {f : Ea} (h1 : f δ = some (os, δ1)) (h2 : vals os = some ds) (h4 : c none ds = some (r, some fs)) (hk : (k == 1) = false) (h5 : fs[k]? = some d) : vCallNFld c f k δ = some (.dat d, δ1) := by
  have hk' : ¬ k = 1 := by simpa using hk
  simp only [vCallNFld, if_neg hk', h1, h2, h4, h5, Option.bind_some, Option.map_some]
theorem e_callNM {c m : Fnc} {f : Ea} {r' : Res} (h1 : f δ = some (os, δ1)) (h2 : vals os = some ds) (h4 : c none ds = some (r, some fs)) (h5 : m (some fs) [] = some (r', some gs)) : vCallNMeth c f m δ = some (r', δ1) := by
  simp only [vCallNMeth, h1, h2, h4, h5, Option.bind_some]
theorem p_ixNegM {k : Nat} (h1 : 1 ≤ k) (h : k ≤ us.length) : bIx (iL us) (.int (-(k : Int))) = some (.dat (.int (us.getD (us.length - k) 0))) := by
  have e := EV.p_ixNegL (us := us) (k := k - 1) (by omega)
  rw [show (-1 - ((k - 1 : Nat) : Int)) = -(k : Int) by omega, show us.length - 1 - (k - 1) = us.length - k by omega] at e
  exact e
theorem b_any2L : biAny2 [iL us] = some (.dat (.bool (us.any fun i => i != 0))) := by
  cases us with
  | nil => rfl
  | cons u us =>
    simp only [biAny2]
    show (match boolsOf ((u :: us).map PyData.int) with
      | some bs => some (Res.dat (PyData.bool (bs.any id)))
      | none => (intsOf ((u :: us).map PyData.int)).map fun (is : List Int) => Res.dat (.bool (is.any fun i => i != 0))) = _
    rw [show boolsOf ((u :: us).map PyData.int) = none from rfl, IPL.intsOf_map]
    rfl
theorem a_app {A : Ea} {is : List Int} (h : A δ = some (os, δ1)) : aApp A (is.map .int) δ = some (os ++ (is.map PyData.int).map Opd.val, δ1) := by simp only [aApp, h, Option.map_some]
/-- any slot that a name may leave -/
def An (t : Slot) : Prop := t = .un ∨ (∃ d, t = .dat d) ∨ ∃ ds, t = .own ds
theorem an_u : An .un := .inl rfl
theorem an_d : An (.dat d) := .inr (.inl ⟨d, rfl⟩)
theorem an_o : An (.own ds) := .inr (.inr ⟨ds, rfl⟩)
theorem st_0g {t s : Slot} (h : An t) : setSlot (t :: δ) 0 s = some (s :: δ) := by rcases h with rfl | ⟨d, rfl⟩ | ⟨ds, rfl⟩ <;> rfl
theorem p_addD {a b : List D} (h : a.length + b.length ≤ 16000000) : bAdd (.list a) (.list b) = some (.new (a ++ b)) := by
  simp only [bAdd]
  rw [if_pos h]
theorem f_foldS {σ α : Type} {g : Tg} {bb : Es} {enc : α → D} (E : σ → Env → Prop) (f : σ → α → σ) (l : List α) (s0 : σ) (δ0 : Env) (h0 : E s0 δ0) (h : ∀ s u δ, u ∈ l → E s δ → Step g bb (enc u) δ (E (f s u))) : ∃ δ', forGo g bb (l.map enc) δ0 = some (.nx, δ') ∧ E (l.foldl f s0) δ' :=
  f_fold E f l s0 δ0 h0 fun s u δ hu hs => by
    obtain ⟨δ1, δ2, o, e1, e2, e3, e4⟩ := h s u δ hu hs
    exact ⟨δ1, δ2, o, e1, e2, e3, e4⟩
theorem s_retG (h : δ[i]? = some (.obj fs)) : sRetG i δ = some (.ro i, δ) := by simp only [sRetG, h]
theorem q_ro {g : Es} : seqK (.ro i) g δ = some (.ro i, δ) := rfl
theorem fn_g {F : Fn} {δ0 : Env} {o : Out} (hl : ds.length + 1 = F.nps) (he : .pob fs :: (ds.map .dat ++ List.replicate (F.names - F.nps) .un) = δ0) (h : F.body δ0 = some (o, δ)) (ho : outR o = some r) (h0 : δ[0]? = some (.pob gs)) : F.runG (some fs) ds = some (r, some gs) := by
  subst he
  simp only [Fn.runG, Fn.start, hl, if_true, Option.bind_some, h]
  cases o <;> simp only [outR, reduceCtorEq, Option.some.injEq] at ho <;> subst ho <;> simp only [h0]
theorem fn_n {F : Fn} {δ0 : Env} (hl : ds.length = F.nps) (he : ds.map .dat ++ List.replicate (F.names - F.nps) .un = δ0) (h : F.body δ0 = some (.ro i, δ)) (h0 : δ[i]? = some (.obj fs)) : F.runN none ds = some (.dat .none, some fs) := by
  subst he
  simp only [Fn.runN, Fn.start, hl, if_true, Option.bind_some, h, h0]
theorem e_fz {is : List Nat} {f : Ev} (h : fzAll is δ = δ1) {w : Res × Env} (h2 : f δ1 = some w) : vFz is f δ = some w := by
  subst h
  exact h2
theorem s_fz {is : List Nat} {f : Es} (h : fzAll is δ = δ1) {w : Out × Env} (h2 : f δ1 = some w) : sFz is f δ = some w := by
  subst h
  exact h2
end
end EV
namespace EV
open IP
open PySem (PyData)
theorem gdO {a b : Option (Opd × Env)} (h : a = b) : a = b := h
theorem gdV {a b : Option (Res × Env)} (h : a = b) : a = b := h
theorem gdS {a b : Option (Out × Env)} (h : a = b) : a = b := h
theorem gdT {a b : Option (Bool × Env)} (h : a = b) : a = b := h
theorem gdA {a b : Option (List Opd × Env)} (h : a = b) : a = b := h
theorem gdR {a b : Option Res} (h : a = b) : a = b := h
theorem gdRb {op : D → D → Option Res} {x y : D} {b : Option Res} (h : op x y = b) : op x y = b := h
theorem gdRi {op : List D → Option Res} {x : List D} {b : Option Res} (h : op x = b) : op x = b := h
theorem gdRu {op : D → Option Res} {x : D} {b : Option Res} (h : op x = b) : op x = b := h
theorem gdE {a b : Option Env} (h : a = b) : a = b := h
theorem gdI {a b : Option ((List D × Option Nat) × Env)} (h : a = b) : a = b := h
theorem gdL {a b : Option (List D)} (h : a = b) : a = b := h
theorem gdD {a b : Option D} (h : a = b) : a = b := h
theorem gdTr {a b : Option Bool} (h : a = b) : a = b := h
theorem gdG {a b : Option Slot} (h : a = b) : a = b := h
theorem gdBo {a b : Bool} (h : a = b) : a = b := h
theorem gdDd {a b : D} (h : a = b) : a = b := h
theorem gdEn {a b : Env} (h : a = b) : a = b := h
theorem gdSl {a b : Slot} (h : a = b) : a = b := h
theorem gdLs {a b : List Slot} (h : a = b) : a = b := h
theorem gdLc {a b : Option (List D × Env)} (h : a = b) : a = b := h
theorem gdP {a b : Option (List Res × Env)} (h : a = b) : a = b := h
theorem gdPo {a b : Option (Option Int × Env)} (h : a = b) : a = b := h
theorem gh_bAdd {x y : D} {r : Option Res} (h : bAdd x y = r) : bAdd x y = r := h
theorem gh_bMul {x y : D} {r : Option Res} (h : bMul x y = r) : bMul x y = r := h
theorem gh_bEq {x y : D} {r : Option Res} (h : bEq x y = r) : bEq x y = r := h
theorem gh_bNe {x y : D} {r : Option Res} (h : bNe x y = r) : bNe x y = r := h
theorem gh_bIx {x y : D} {r : Option Res} (h : bIx x y = r) : bIx x y = r := h
theorem gh_bPow {x y : D} {r : Option Res} (h : bPow x y = r) : bPow x y = r := h
theorem gh_biLen {x : List D} {r : Option Res} (h : biLen x = r) : biLen x = r := h
theorem gh_uIs {t : List Ty} {x : D} {r : Option Res} (h : uIs t x = r) : uIs t x = r := h
theorem gh_uIsN {x : D} {r : Option Res} (h : uIsN x = r) : uIsN x = r := h
theorem gh_uNotN {x : D} {r : Option Res} (h : uNotN x = r) : uNotN x = r := h
theorem gh_cutR {x : D} {a b : Option Int} {r : Option Res} (h : cutR x a b = r) : cutR x a b = r := h
theorem gh_outR {x : Out} {r : Option Res} (h : outR x = r) : outR x = r := h
theorem gh_seqK {o : Out} {g : Es} {δ : Env} {r : Option (Out × Env)} (h : seqK o g δ = r) : seqK o g δ = r := h
theorem gh_setSlot {δ : Env} {i : Nat} {s : Slot} {r : Option Env} (h : setSlot δ i s = r) : setSlot δ i s = r := h
theorem gh_truth {d : D} {r : Option Bool} (h : truth d = r) : truth d = r := h
end EV
end
section
set_option linter.all false
/-! Ev4: rules for owned dicts. -/
namespace EV
open IP
open PySem (PyData)
variable {δ δ1 δ2 δ3 : Env} {i : Nat} {kvs kv0 : List (D × D)} {k : Int} {d x : D} {b t : Bool}
theorem dctI_of (h : δ[i]? = some (.dct false kvs)) : dctI δ i = some kvs := by
  unfold dctI
  rw [h]
theorem so_nd : slotOf (.newD t kvs) = .dct t kvs := rfl
theorem td_nd : Res.toD (.newD t kvs) = .dict kvs := rfl
theorem st_0k {s : Slot} : setSlot (.dct t kvs :: δ) 0 s = some (s :: δ) := rfl
theorem e_dnew : vDNew t δ = some (.newD t [], δ) := rfl
theorem e_disp {kds : List (Int × D)} : vDisp kds δ = some (.newD false (kds.map fun kd => (.int kd.1, kd.2)), δ) := rfl
theorem e_dixV {f : Eo} (h0 : dctI δ i = some kv0) (h : f δ = some (.val (.int k), δ1)) (h1 : dctI δ1 i = some kvs) (h2 : dFind kvs k = some d) : vDIx i f δ = some (.dat d, δ1) := by
  simp only [vDIx, h0, h, h1, h2, Option.bind_some, Option.map_some]
theorem e_din {f : Eo} (h : f δ = some (.val (.int k), δ1)) (h1 : dctI δ1 i = some kvs) (h2 : (dFind kvs k).isSome = b) : vDIn f i δ = some (.dat (.bool b), δ1) := by
  simp only [vDIn, h, h1, h2, Option.bind_some, Option.map_some]
theorem e_dnin {f : Eo} (h : f δ = some (.val (.int k), δ1)) (h1 : dctI δ1 i = some kvs) (h2 : (dFind kvs k).isSome = b) : vDNin f i δ = some (.dat (.bool (!b)), δ1) := by
  simp only [vDNin, h, h1, h2, Option.bind_some, Option.map_some]
theorem e_dget {f g : Eo} (h0 : dctI δ i = some kv0) (h : f δ = some (.val (.int k), δ1)) (h3 : g δ1 = some (.val x, δ2)) (h1 : dctI δ2 i = some kvs) (h2 : (dFind kvs k).getD x = d) : vDGet i f g δ = some (.dat d, δ2) := by
  simp only [vDGet, h0, h, h3, h1, h2, Option.bind_some, Option.map_some]
theorem s_dset {ky : Eo} {f : Ev} {r : Res} {kvs' : List (D × D)} (h : f δ = some (r, δ1)) (h0 : dctI δ1 i = some kv0) (h2 : ky δ1 = some (.val (.int k), δ2)) (h1 : dctI δ2 i = some kvs) (hl : kvs.length < line) (h3 : dPutI kvs k r.toD = kvs') (h4 : δ2.set i (.dct false kvs') = δ3) : sDSet i ky f δ = some (.nx, δ3) := by
  simp only [sDSet, h, h0, h2, h1, Option.bind_some]
  rw [if_pos hl, h3, h4]
end EV
end
section
set_option linter.all false
set_option maxRecDepth 100000
set_option maxHeartbeats 8000000
namespace IPL
open IP
open PySem (PyData)
abbrev W_power_of_1 (c : Call) : Es := (sSeq (sSet 2 (fBin bMul (oVar 2) (oVar 2))) (sIf (tV (oV (fBin bAnd (oV (fBin bShr (oVar 1) (oVar 3))) (oV (vC (.int 1)))))) (sSet 2 (fBin bMul (oVar 2) (oVar 0))) sPass))
abbrev G_power_of (c : Call) : Es := (sSeq (sSet 2 (vC (.int 1))) (sSeq (sFor (iRevR1 (oV (fUn uBits (oVar 1)))) (.nm 3) (W_power_of_1 c)) (sRet (vVar 2))))
def F_power_of (c : Call) : Fn := ⟨false, 2, 4, G_power_of c⟩
abbrev W_inverse_1 (c : Call) : Es := (sAug 2 (fun i j => i + j) (oV (vC (.int 1))))
abbrev G_inverse (c : Call) : Es := (sSeq (sSet 2 (vC (.int 1))) (sSeq (sWhile (tB (fBin bNe (oV (fBin bMod (oV (fBin bMul (oVar 1) (oVar 2))) (oVar 0))) (oV (vC (.int 1))))) (W_inverse_1 c)) (sRet (vVar 2))))
def F_inverse (c : Call) : Fn := ⟨false, 2, 3, G_inverse c⟩
abbrev G_is_between (c : Call) : Es := (sRet (vAnd (fUn (uIs [.int]) (oVar 0)) (vAnd (vNot (fUn (uIs [.bool]) (oVar 0))) (vChain bLe bLe (oVar 1) (oVar 0) (oVar 2)))))
def F_is_between (c : Call) : Fn := ⟨false, 3, 3, G_is_between c⟩
abbrev W_are_numbers_1 (c : Call) : Ev := (vCall (c "is_between") (aCons (oVar 3) (aCons (oV (vC (.int 0))) (aCons (oV (fBin bSub (oVar 0) (oV (vC (.int 1))))) aNil))))
abbrev G_are_numbers (c : Call) : Es := (sSeq (sIf (tOr (tNot (tV (oV (fUn (uIs [.tuple]) (oVar 1))))) (tB (fBin bGt (oV (vBi biLen (aCons (oVar 1) aNil))) (oVar 2)))) (sRet (vC (.bool false))) sPass) (sRet (vBi biAll (aCons (oV (vLc [3] (iE (oVar 1)) (.nm 3) tYes (W_are_numbers_1 c))) aNil))))
def F_are_numbers (c : Call) : Fn := ⟨false, 3, 4, G_are_numbers c⟩
abbrev G_check_prime (c : Call) : Es := (sIf (tOr (tNot (tV (oV (vCall (c "is_between") (aCons (oVar 0) (aCons (oV (vC (.int 2))) (aCons (oV (vC (.int 7))) aNil))))))) (tB (fBin bNotIn (oVar 0) (oV (vC (.tuple ([2, 3, 5, 7].map .int))))))) sNever sPass)
def F_check_prime (c : Call) : Fn := ⟨false, 1, 1, G_check_prime c⟩
abbrev G_check_number (c : Call) : Es := (sIf (tNot (tV (oV (vCall (c "is_between") (aCons (oVar 0) (aCons (oVar 1) (aCons (oVar 2) aNil))))))) sNever sPass)
def F_check_number (c : Call) : Fn := ⟨false, 3, 3, G_check_number c⟩
abbrev G_check_row (c : Call) : Es := (sIf (tNot (tV (oV (vCall (c "are_numbers") (aCons (oVar 0) (aCons (oVar 1) (aCons (oV (vC (.int 400))) aNil))))))) sNever sPass)
def F_check_row (c : Call) : Fn := ⟨false, 2, 2, G_check_row c⟩
abbrev G_check_fraction (c : Call) : Es := (sSeq (sIf (tOr (tNot (tV (oV (fUn (uIs [.tuple]) (oVar 1))))) (tB (fBin bNe (oV (vBi biLen (aCons (oVar 1) aNil))) (oV (vC (.int 2)))))) sNever sPass) (sSeq (sUnp [2, 3] (vVar 1)) (sIf (tOr (tNot (tV (oV (vCall (c "is_between") (aCons (oVar 2) (aCons (oV (fUn uNeg (oV (vC (.int 1000000000000000000000000000000000000000000000000000000000000))))) (aCons (oV (vC (.int 1000000000000000000000000000000000000000000000000000000000000))) aNil))))))) (tOr (tNot (tV (oV (vCall (c "is_between") (aCons (oVar 3) (aCons (oV (vC (.int 1))) (aCons (oV (vC (.int 1000000000000000000000000000000000000000000000000000000000000))) aNil))))))) (tB (fBin bEq (oV (fBin bMod (oVar 3) (oVar 0))) (oV (vC (.int 0))))))) sNever sPass)))
def F_check_fraction (c : Call) : Fn := ⟨false, 2, 4, G_check_fraction c⟩
abbrev W_value_of_1 (c : Call) : Es := (sSet 2 (fBin bAdd (oV (fBin bMul (oVar 2) (oVar 0))) (oVar 3)))
abbrev G_value_of (c : Call) : Es := (sSeq (sSet 2 (vC (.int 0))) (sSeq (sFor (iRevS (oV (vVar 1))) (.nm 3) (W_value_of_1 c)) (sRet (vVar 2))))
def F_value_of (c : Call) : Fn := ⟨false, 2, 4, G_value_of c⟩
abbrev W_figures_of_1 (c : Call) : Es := (sSeq (sApp 4 (vCall (c "_first_figure") (aCons (oVar 0) (aCons (oVar 1) (aCons (oVar 2) aNil))))) (sSet 1 (vCall (c "rest_above") (aCons (oVar 0) (aCons (oVar 1) (aCons (oVar 2) aNil))))))
abbrev G_figures_of (c : Call) : Es := (sSeq (sSet 4 (vLst aNil)) (sSeq (sFor (iRange1 (oVar 3)) (.nm 5) (W_figures_of_1 c)) (sRet (vBi biTuple (aCons (oVar 4) aNil)))))
def F_figures_of (c : Call) : Fn := ⟨false, 4, 6, G_figures_of c⟩
abbrev G_rest_above (c : Call) : Es := (sRet (fBin bFdiv (oV (fBin bSub (oVar 1) (oV (fBin bMul (oV (vCall (c "_first_figure") (aCons (oVar 0) (aCons (oVar 1) (aCons (oVar 2) aNil))))) (oVar 2))))) (oVar 0)))
def F_rest_above (c : Call) : Fn := ⟨false, 3, 3, G_rest_above c⟩
abbrev G__first_figure (c : Call) : Es := (sRet (fBin bMod (oV (fBin bMul (oVar 1) (oV (vCall (c "inverse") (aCons (oVar 0) (aCons (oVar 2) aNil)))))) (oVar 0)))
def F__first_figure (c : Call) : Fn := ⟨false, 3, 3, G__first_figure c⟩
abbrev G_carry_span (c : Call) : Es := (sSeq (sUnp [2, 3] (vCall (c "_least_of") (aCons (oVar 0) (aCons (oVar 1) aNil)))) (sRet (vBi biMax (aCons (oV (vBi biAbs (aCons (oVar 2) aNil))) (aCons (oVar 3) aNil)))))
def F_carry_span (c : Call) : Fn := ⟨false, 2, 4, G_carry_span c⟩
abbrev G_least_fraction (c : Call) : Es := (sRet (vCall (c "_least_of") (aCons (oVar 0) (aCons (oVar 1) aNil))))
def F_least_fraction (c : Call) : Fn := ⟨false, 2, 2, G_least_fraction c⟩
abbrev G__least_of (c : Call) : Es := (sSeq (sEx (vCall (c "check_prime") (aCons (oVar 0) aNil))) (sSeq (sEx (vCall (c "check_row") (aCons (oVar 0) (aCons (oVar 1) aNil)))) (sSeq (sSet 2 (vCall (c "power_of") (aCons (oVar 0) (aCons (oV (vBi biLen (aCons (oVar 1) aNil))) aNil)))) (sSeq (sUnp [3, 4] (vCall (c "_fitting") (aCons (oVar 0) (aCons (oV (vCall (c "_reduced") (aCons (oV (vTup (aCons (oV (vCall (c "value_of") (aCons (oVar 0) (aCons (oVar 1) aNil)))) (aCons (oV (vC (.int 1))) aNil)))) (aCons (oV (vTup (aCons (oVar 2) (aCons (oV (vC (.int 0))) aNil)))) aNil)))) aNil)))) (sRet (vIte (tB (fBin bGt (oVar 4) (oV (vC (.int 0))))) (vTup (aCons (oVar 3) (aCons (oVar 4) aNil))) (vTup (aCons (oV (fUn uNeg (oVar 3))) (aCons (oV (fUn uNeg (oVar 4))) aNil)))))))))
def F__least_of (c : Call) : Fn := ⟨false, 2, 5, G__least_of c⟩
abbrev G__fitting (c : Call) : Es := (sRet (vIte (tB (fBin bNe (oV (fBin bMod (oV (fBin bIx (oV (fBin bIx (oVar 1) (oV (vC (.int 0))))) (oV (vC (.int 1))))) (oVar 0))) (oV (vC (.int 0))))) (fBin bIx (oVar 1) (oV (vC (.int 0)))) (fBin bIx (oVar 1) (oV (vC (.int 1))))))
def F__fitting (c : Call) : Fn := ⟨false, 2, 2, G__fitting c⟩
abbrev W__reduced_1 (c : Call) : Es := (sSeq (sPar [0, 1] [(vVar 2), (vVar 0)]) (sSet 2 (vCall (c "_nearest") (aCons (oVar 1) (aCons (oVar 0) aNil)))))
abbrev G__reduced (c : Call) : Es := (sSeq (sIf (tB (fBin bLt (oV (vCall (c "_size") (aCons (oVar 1) aNil))) (oV (vCall (c "_size") (aCons (oVar 0) aNil))))) (sPar [0, 1] [(vVar 1), (vVar 0)]) sPass) (sSeq (sSet 2 (vCall (c "_nearest") (aCons (oVar 1) (aCons (oVar 0) aNil)))) (sSeq (sWhile (tB (fBin bLt (oV (vCall (c "_size") (aCons (oVar 2) aNil))) (oV (vCall (c "_size") (aCons (oVar 0) aNil))))) (W__reduced_1 c)) (sRet (vTup (aCons (oVar 0) (aCons (oVar 2) aNil)))))))
def F__reduced (c : Call) : Fn := ⟨false, 2, 3, G__reduced c⟩
abbrev W__nearest_1 (c : Call) : Ev := (fBin bFdivN (oVar 5) (oVar 6))
abbrev W__nearest_2 (c : Call) : Et := (tB (fBin bNe (oVar 6) (oV (vC (.int 0)))))
abbrev W__nearest_3 (c : Call) : Ev := (vCall (c "_less") (aCons (oVar 0) (aCons (oVar 1) (aCons (oVar 7) aNil))))
abbrev W__nearest_4 (c : Call) : Ev := (vCall (c "_less") (aCons (oVar 0) (aCons (oVar 1) (aCons (oV (fBin bAdd (oVar 7) (oV (vC (.int 1))))) aNil))))
abbrev G__nearest (c : Call) : Es := (sSeq (sSet 2 (vLst (aCons (oV (vTup (aCons (oV (fBin bSub (oV (fBin bIx (oVar 0) (oV (vC (.int 0))))) (oV (fBin bIx (oVar 0) (oV (vC (.int 1))))))) (aCons (oV (fBin bSub (oV (fBin bIx (oVar 1) (oV (vC (.int 0))))) (oV (fBin bIx (oVar 1) (oV (vC (.int 1))))))) aNil)))) (aCons (oV (vTup (aCons (oV (fBin bAdd (oV (fBin bIx (oVar 0) (oV (vC (.int 0))))) (oV (fBin bIx (oVar 0) (oV (vC (.int 1))))))) (aCons (oV (fBin bAdd (oV (fBin bIx (oVar 1) (oV (vC (.int 0))))) (oV (fBin bIx (oVar 1) (oV (vC (.int 1))))))) aNil)))) aNil)))) (sSeq (sSet 3 (vLc [5, 6] (iE (oVar 2)) (.tup [5, 6]) (W__nearest_2 c) (W__nearest_1 c))) (sSeq (sSet 4 (fBin bAdd (oV (vLc [7] (iE (oVar 3)) (.nm 7) tYes (W__nearest_3 c))) (oV (vLc [7] (iE (oVar 3)) (.nm 7) tYes (W__nearest_4 c))))) (sRet (vMinK (c "_size") (oVar 4))))))
def F__nearest (c : Call) : Fn := ⟨false, 2, 8, G__nearest c⟩
abbrev G__less (c : Call) : Es := (sRet (vTup (aCons (oV (fBin bSub (oV (fBin bIx (oVar 0) (oV (vC (.int 0))))) (oV (fBin bMul (oVar 2) (oV (fBin bIx (oVar 1) (oV (vC (.int 0))))))))) (aCons (oV (fBin bSub (oV (fBin bIx (oVar 0) (oV (vC (.int 1))))) (oV (fBin bMul (oVar 2) (oV (fBin bIx (oVar 1) (oV (vC (.int 1))))))))) aNil))))
def F__less (c : Call) : Fn := ⟨false, 3, 3, G__less c⟩
abbrev G__size (c : Call) : Es := (sRet (vBi biMax (aCons (oV (vBi biAbs (aCons (oV (fBin bIx (oVar 0) (oV (vC (.int 0))))) aNil))) (aCons (oV (vBi biAbs (aCons (oV (fBin bIx (oVar 0) (oV (vC (.int 1))))) aNil))) aNil))))
def F__size (c : Call) : Fn := ⟨false, 1, 1, G__size c⟩
abbrev G_fraction_row (c : Call) : Es := (sSeq (sEx (vCall (c "check_prime") (aCons (oVar 0) aNil))) (sSeq (sEx (vCall (c "check_fraction") (aCons (oVar 0) (aCons (oVar 1) aNil)))) (sSeq (sEx (vCall (c "check_number") (aCons (oVar 2) (aCons (oV (vC (.int 0))) (aCons (oV (vC (.int 400))) aNil))))) (sSeq (sUnp [3, 4] (vVar 1)) (sRet (vCall (c "figures_of") (aCons (oVar 0) (aCons (oVar 3) (aCons (oVar 4) (aCons (oVar 2) aNil))))))))))
def F_fraction_row (c : Call) : Fn := ⟨false, 3, 5, G_fraction_row c⟩
abbrev G__law_taken (c : Call) : Es := (sSeq (sIf (tB (fBin bGt (oV (fBin bIx (oVar 0) (oV (vC (.int 3))))) (oV (vC (.int 0))))) (sSeq (sSet 2 (fBin bMod (oV (vBi biInt (aCons (oV (fBin bIx (oVar 0) (oV (vC (.int 3))))) aNil))) (oVar 1))) (sSeq (sSetIx 0 (oV (vC (.int 3))) (oV (fBin bFdiv (oV (fBin bIx (oVar 0) (oV (vC (.int 3))))) (oVar 1)))) (sRet (vVar 2)))) sPass) (sSeq (sSetIx 0 (oV (vC (.int 1))) (oV (fBin bAdd (oV (fBin bIx (oVar 0) (oV (vC (.int 1))))) (oV (vC (.int 1)))))) (sSeq (sIf (tB (fBin bGt (oV (fBin bIx (oVar 0) (oV (vC (.int 1))))) (oV (vBi biLen (aCons (oV (fBin bIx (oVar 0) (oV (vC (.int 0))))) aNil))))) (sSeq (sSetIx 0 (oV (vC (.int 2))) (oV (fBin bMod (oV (vBi biInt (aCons (oV (fBin bAdd (oV (fBin bMul (oV (fBin bIx (oVar 0) (oV (vC (.int 2))))) (oV (vC (.int 48271))))) (oV (vC (.int 11))))) aNil))) (oV (vC (.int 2147483647)))))) (sRet (fBin bMod (oV (vBi biInt (aCons (oV (fBin bFdiv (oV (fBin bIx (oVar 0) (oV (vC (.int 2))))) (oV (vC (.int 7))))) aNil))) (oVar 1)))) sPass) (sSeq (sSet 3 (fBin bIx (oV (fBin bIx (oVar 0) (oV (vC (.int 0))))) (oV (fBin bSub (oV (fBin bIx (oVar 0) (oV (vC (.int 1))))) (oV (vC (.int 1))))))) (sSeq (sSetIx 0 (oV (vC (.int 2))) (oV (fBin bMod (oV (vBi biInt (aCons (oV (fBin bAdd (oV (fBin bAdd (oV (fBin bMul (oV (fBin bIx (oVar 0) (oV (vC (.int 2))))) (oV (vC (.int 48271))))) (oVar 3))) (oV (vC (.int 11))))) aNil))) (oV (vC (.int 2147483647)))))) (sSeq (sIf (tB (fBin bGe (oVar 3) (oV (fBin bPow (oV (vC (.int 10))) (oV (vC (.int 18))))))) (sSetIx 0 (oV (vC (.int 3))) (oV (fBin bFdiv (oVar 3) (oVar 1)))) sPass) (sRet (fBin bMod (oV (vBi biInt (aCons (oVar 3) aNil))) (oVar 1)))))))))
def F__law_taken (c : Call) : Fn := ⟨true, 2, 4, G__law_taken c⟩
abbrev G__law_pick (c : Call) : Es := (sRet (fBin bIx (oVar 1) (oV (vCallR (c "_law_taken") 0 (aCons (oV (vBi biLen (aCons (oVar 1) aNil))) aNil)))))
def F__law_pick (c : Call) : Fn := ⟨true, 2, 2, G__law_pick c⟩
abbrev G__law_prime (c : Call) : Es := (sRet (vCallR (c "_law_pick") 0 (aCons (oV (vLst (aCons (oV (vC (.int 2))) (aCons (oV (vC (.int 2))) (aCons (oV (vC (.int 3))) (aCons (oV (vC (.int 5))) (aCons (oV (vC (.int 7))) aNil))))))) aNil)))
def F__law_prime (c : Call) : Fn := ⟨true, 1, 1, G__law_prime c⟩
abbrev G__law_low (c : Call) : Es := (sSeq (sSet 3 (fBin bAdd (oV (vC (.int 1))) (oV (vCallR (c "_law_taken") 0 (aCons (oVar 2) aNil))))) (sRet (fBin bAdd (oVar 3) (oV (vBi biInt (aCons (oV (fBin bEq (oV (fBin bMod (oV (vBi biInt (aCons (oVar 3) aNil))) (oVar 1))) (oV (vC (.int 0))))) aNil))))))
def F__law_low (c : Call) : Fn := ⟨true, 3, 4, G__law_low c⟩
abbrev W__law_shared_1 (c : Call) : Es := (sSeq (sIf (tB (fBin bEq (oVar 1) (oV (vC (.int 0))))) (sRet (vVar 0)) sPass) (sPar [0, 1] [(vVar 1), (fBin bMod (oV (vBi biInt (aCons (oVar 0) aNil))) (oVar 1))]))
abbrev G__law_shared (c : Call) : Es := (sSeq (sPar [0, 1] [(vBi biAbs (aCons (oVar 0) aNil)), (vBi biAbs (aCons (oVar 1) aNil))]) (sSeq (sFor (iRange1 (oV (vC (.int 1500)))) (.nm 2) (W__law_shared_1 c)) (sRet (vVar 0))))
def F__law_shared (c : Call) : Fn := ⟨false, 2, 3, G__law_shared c⟩
abbrev G__law_lowest_of (c : Call) : Es := (sSeq (sSet 2 (vIte (tB (fBin bGt (oVar 1) (oV (vC (.int 0))))) (vCall (c "_law_shared") (aCons (oVar 0) (aCons (oVar 1) aNil))) (fBin bSub (oV (vC (.int 0))) (oV (vCall (c "_law_shared") (aCons (oVar 0) (aCons (oVar 1) aNil))))))) (sRet (vTup (aCons (oV (fBin bFdiv (oVar 0) (oVar 2))) (aCons (oV (fBin bFdiv (oVar 1) (oVar 2))) aNil)))))
def F__law_lowest_of (c : Call) : Fn := ⟨false, 2, 3, G__law_lowest_of c⟩
abbrev W__law_alike_1 (c : Call) : Ev := (vVar 2)
abbrev W__law_alike_2 (c : Call) : Et := (tNot (tV (oV (vCall (c "_law_alike") (aCons (oV (fBin bIx (oVar 0) (oVar 2))) (aCons (oV (fBin bIx (oVar 1) (oVar 2))) aNil))))))
abbrev G__law_alike (c : Call) : Es := (sSeq (sIf (tV (oV (fUn (uIs [.tuple, .list]) (oVar 1)))) (sSeq (sIf (tOr (tNot (tV (oV (fUn (uIs [.tuple, .list]) (oVar 0))))) (tB (fBin bNe (oV (fUn (uIs [.list]) (oVar 0))) (oV (fUn (uIs [.list]) (oVar 1)))))) (sRet (vC (.bool false))) sPass) (sSeq (sIf (tB (fBin bNe (oV (vBi biLen (aCons (oVar 0) aNil))) (oV (vBi biLen (aCons (oVar 1) aNil))))) (sRet (vC (.bool false))) sPass) (sRet (fBin bEq (oV (vLc [2] (iRange1 (oV (vBi biLen (aCons (oVar 1) aNil)))) (.nm 2) (W__law_alike_2 c) (W__law_alike_1 c))) (oV (vLst aNil)))))) sPass) (sSeq (sIf (tOr (tB (fUn uIsN (oVar 1))) (tV (oV (fUn (uIs [.str]) (oVar 1))))) (sRet (vAnd (fBin bEq (oVar 0) (oVar 1)) (fBin bEq (oV (fUn (uIs [.str]) (oVar 0))) (oV (fUn (uIs [.str]) (oVar 1)))))) sPass) (sRet (vAnd (fUn (uIs [.int]) (oVar 0)) (vAnd (fBin bEq (oV (fUn (uIs [.bool]) (oVar 0))) (oV (fUn (uIs [.bool]) (oVar 1)))) (fBin bEq (oVar 0) (oVar 1)))))))
def F__law_alike (c : Call) : Fn := ⟨false, 2, 3, G__law_alike c⟩
abbrev W_law_1 (c : Call) : Es := (sIf (tB (fBin bLe (oVar 8) (oV (fBin bMul (oV (fBin bMul (oV (vC (.int 2))) (oV (vBi biMax (aCons (oV (vBi biAbs (aCons (oV (fBin bIx (oVar 6) (oV (vC (.int 0))))) aNil))) (aCons (oV (fBin bIx (oVar 6) (oV (vC (.int 1))))) aNil)))))) (oV (vBi biMax (aCons (oV (vBi biAbs (aCons (oV (fBin bIx (oVar 6) (oV (vC (.int 0))))) aNil))) (aCons (oV (fBin bIx (oVar 6) (oV (vC (.int 1))))) aNil)))))))) (sPar [7, 8] [(fBin bAdd (oVar 7) (oV (vC (.int 1)))), (fBin bMul (oVar 8) (oVar 2))]) sPass)
abbrev W_law_2 (c : Call) : Ev := (vCallR (c "_law_taken") 1 (aCons (oVar 2) aNil))
abbrev W_law_3 (c : Call) : Es := (sSeq (sSet 13 (vCall (c "carry_span") (aCons (oVar 2) (aCons (oV (fSl (oVar 11) pNo (pSo (oVar 7)))) aNil)))) (sSeq (sIf (tB (fBin bLt (oVar 13) (oVar 12))) (sRet (vC (.bool false))) sPass) (sSeq (sSet 12 (vVar 13)) (sSeq (sSet 14 (vCall (c "least_fraction") (aCons (oVar 2) (aCons (oV (fSl (oVar 11) pNo (pSo (oVar 7)))) aNil)))) (sIf (tOr (tB (fBin bNe (oV (vBi biMax (aCons (oV (vBi biAbs (aCons (oV (fBin bIx (oVar 14) (oV (vC (.int 0))))) aNil))) (aCons (oV (fBin bIx (oVar 14) (oV (vC (.int 1))))) aNil)))) (oVar 13))) (tB (fBin bNe (oV (vCall (c "fraction_row") (aCons (oVar 2) (aCons (oVar 14) (aCons (oVar 7) aNil))))) (oV (fSl (oVar 11) pNo (pSo (oVar 7))))))) (sRet (vC (.bool false))) sPass)))))
abbrev G_law (c : Call) : Es := (sSeq (sSet 1 (vLst (aCons (oVar 0) (aCons (oV (vC (.int 0))) (aCons (oV (vC (.int 5070))) (aCons (oV (vC (.int 0))) aNil)))))) (sSeq (sSet 2 (vCallR (c "_law_prime") 1 aNil)) (sSeq (sSet 3 (fBin bIx (oV (vLst (aCons (oV (vC (.int 9))) (aCons (oV (vC (.int 300))) (aCons (oV (fBin bPow (oV (vC (.int 10))) (oV (vC (.int 12))))) (aCons (oV (fBin bPow (oV (vC (.int 10))) (oV (vC (.int 40))))) aNil)))))) (oV (vCallR (c "_law_taken") 1 (aCons (oV (vC (.int 4))) aNil))))) (sSeq (sPar [4, 5] [(fBin bSub (oV (vCallR (c "_law_taken") 1 (aCons (oV (fBin bMul (oV (vC (.int 2))) (oVar 3))) aNil))) (oVar 3)), (vCallR (c "_law_low") 1 (aCons (oVar 2) (aCons (oVar 3) aNil)))]) (sSeq (sSet 6 (vCall (c "_law_lowest_of") (aCons (oVar 4) (aCons (oVar 5) aNil)))) (sSeq (sPar [7, 8] [(vC (.int 0)), (vC (.int 1))]) (sSeq (sFor (iRange1 (oV (vC (.int 400)))) (.nm 9) (W_law_1 c)) (sSeq (sSet 10 (vCall (c "fraction_row") (aCons (oVar 2) (aCons (oVar 6) (aCons (oV (fBin bAdd (oVar 7) (oV (vCallR (c "_law_taken") 1 (aCons (oV (vC (.int 20))) aNil))))) aNil))))) (sSeq (sIf (tNot (tV (oV (vCall (c "_law_alike") (aCons (oV (vCall (c "least_fraction") (aCons (oVar 2) (aCons (oVar 10) aNil)))) (aCons (oVar 6) aNil)))))) (sRet (vC (.bool false))) sPass) (sSeq (sIf (tNot (tV (oV (vCall (c "_law_alike") (aCons (oV (vCall (c "carry_span") (aCons (oVar 2) (aCons (oVar 10) aNil)))) (aCons (oV (vBi biMax (aCons (oV (vBi biAbs (aCons (oV (fBin bIx (oVar 6) (oV (vC (.int 0))))) aNil))) (aCons (oV (fBin bIx (oVar 6) (oV (vC (.int 1))))) aNil)))) aNil)))))) (sRet (vC (.bool false))) sPass) (sSeq (sPar [11, 12] [(vBi biTuple (aCons (oV (vLc [15] (iRange1 (oV (vC (.int 40)))) (.nm 15) tYes (W_law_2 c))) aNil)), (vC (.int 1))]) (sSeq (sFor (iStep5 (oV (vC (.int 0))) (oV (vC (.int 41)))) (.nm 7) (W_law_3 c)) (sRet (vC (.bool true)))))))))))))))
def F_law (c : Call) : Fn := ⟨false, 1, 16, G_law c⟩
def tbl (c : Call) (f : String) : Option Fnc :=
  if f = "power_of" then some (F_power_of c).run
  else if f = "inverse" then some (F_inverse c).run
  else if f = "is_between" then some (F_is_between c).run
  else if f = "are_numbers" then some (F_are_numbers c).run
  else if f = "check_prime" then some (F_check_prime c).run
  else if f = "check_number" then some (F_check_number c).run
  else if f = "check_row" then some (F_check_row c).run
  else if f = "check_fraction" then some (F_check_fraction c).run
  else if f = "value_of" then some (F_value_of c).run
  else if f = "figures_of" then some (F_figures_of c).run
  else if f = "rest_above" then some (F_rest_above c).run
  else if f = "_first_figure" then some (F__first_figure c).run
  else if f = "carry_span" then some (F_carry_span c).run
  else if f = "least_fraction" then some (F_least_fraction c).run
  else if f = "_least_of" then some (F__least_of c).run
  else if f = "_fitting" then some (F__fitting c).run
  else if f = "_reduced" then some (F__reduced c).run
  else if f = "_nearest" then some (F__nearest c).run
  else if f = "_less" then some (F__less c).run
  else if f = "_size" then some (F__size c).run
  else if f = "fraction_row" then some (F_fraction_row c).run
  else if f = "_law_taken" then some (F__law_taken c).run
  else if f = "_law_pick" then some (F__law_pick c).run
  else if f = "_law_prime" then some (F__law_prime c).run
  else if f = "_law_low" then some (F__law_low c).run
  else if f = "_law_shared" then some (F__law_shared c).run
  else if f = "_law_lowest_of" then some (F__law_lowest_of c).run
  else if f = "_law_alike" then some (F__law_alike c).run
  else if f = "law" then some (F_law c).run
  else none
def run : Nat → Call
  | 0 => fun _ _ _ => none
  | n + 1 => fun f r ds => match tbl (run n) f with
    | some F => F r ds
    | none => none
theorem run_power_of (n : Nat) : run (n + 1) "power_of" = (F_power_of (run n)).run := by
  funext r ds
  simp [run, tbl]
theorem go_power_of (n : Nat) (x0 : D) (x1 : D) {o : Out} {δ : Env} {r : Res} (h : G_power_of (run n) [.dat x0, .dat x1, .un, .un] = some (o, δ)) (ho : EV.outR o = some r) : run (n + 1) "power_of" none [x0, x1] = some (r, none) := by
  rw [run_power_of]
  exact EV.fn_v rfl rfl rfl h ho
theorem run_inverse (n : Nat) : run (n + 1) "inverse" = (F_inverse (run n)).run := by
  funext r ds
  simp [run, tbl]
theorem go_inverse (n : Nat) (x0 : D) (x1 : D) {o : Out} {δ : Env} {r : Res} (h : G_inverse (run n) [.dat x0, .dat x1, .un] = some (o, δ)) (ho : EV.outR o = some r) : run (n + 1) "inverse" none [x0, x1] = some (r, none) := by
  rw [run_inverse]
  exact EV.fn_v rfl rfl rfl h ho
theorem run_is_between (n : Nat) : run (n + 1) "is_between" = (F_is_between (run n)).run := by
  funext r ds
  simp [run, tbl]
theorem go_is_between (n : Nat) (x0 : D) (x1 : D) (x2 : D) {o : Out} {δ : Env} {r : Res} (h : G_is_between (run n) [.dat x0, .dat x1, .dat x2] = some (o, δ)) (ho : EV.outR o = some r) : run (n + 1) "is_between" none [x0, x1, x2] = some (r, none) := by
  rw [run_is_between]
  exact EV.fn_v rfl rfl rfl h ho
theorem run_are_numbers (n : Nat) : run (n + 1) "are_numbers" = (F_are_numbers (run n)).run := by
  funext r ds
  simp [run, tbl]
theorem go_are_numbers (n : Nat) (x0 : D) (x1 : D) (x2 : D) {o : Out} {δ : Env} {r : Res} (h : G_are_numbers (run n) [.dat x0, .dat x1, .dat x2, .un] = some (o, δ)) (ho : EV.outR o = some r) : run (n + 1) "are_numbers" none [x0, x1, x2] = some (r, none) := by
  rw [run_are_numbers]
  exact EV.fn_v rfl rfl rfl h ho
theorem run_check_prime (n : Nat) : run (n + 1) "check_prime" = (F_check_prime (run n)).run := by
  funext r ds
  simp [run, tbl]
theorem go_check_prime (n : Nat) (x0 : D) {o : Out} {δ : Env} {r : Res} (h : G_check_prime (run n) [.dat x0] = some (o, δ)) (ho : EV.outR o = some r) : run (n + 1) "check_prime" none [x0] = some (r, none) := by
  rw [run_check_prime]
  exact EV.fn_v rfl rfl rfl h ho
theorem run_check_number (n : Nat) : run (n + 1) "check_number" = (F_check_number (run n)).run := by
  funext r ds
  simp [run, tbl]
theorem go_check_number (n : Nat) (x0 : D) (x1 : D) (x2 : D) {o : Out} {δ : Env} {r : Res} (h : G_check_number (run n) [.dat x0, .dat x1, .dat x2] = some (o, δ)) (ho : EV.outR o = some r) : run (n + 1) "check_number" none [x0, x1, x2] = some (r, none) := by
  rw [run_check_number]
  exact EV.fn_v rfl rfl rfl h ho
theorem run_check_row (n : Nat) : run (n + 1) "check_row" = (F_check_row (run n)).run := by
  funext r ds
  simp [run, tbl]
theorem go_check_row (n : Nat) (x0 : D) (x1 : D) {o : Out} {δ : Env} {r : Res} (h : G_check_row (run n) [.dat x0, .dat x1] = some (o, δ)) (ho : EV.outR o = some r) : run (n + 1) "check_row" none [x0, x1] = some (r, none) := by
  rw [run_check_row]
  exact EV.fn_v rfl rfl rfl h ho
theorem run_check_fraction (n : Nat) : run (n + 1) "check_fraction" = (F_check_fraction (run n)).run := by
  funext r ds
  simp [run, tbl]
theorem go_check_fraction (n : Nat) (x0 : D) (x1 : D) {o : Out} {δ : Env} {r : Res} (h : G_check_fraction (run n) [.dat x0, .dat x1, .un, .un] = some (o, δ)) (ho : EV.outR o = some r) : run (n + 1) "check_fraction" none [x0, x1] = some (r, none) := by
  rw [run_check_fraction]
  exact EV.fn_v rfl rfl rfl h ho
theorem run_value_of (n : Nat) : run (n + 1) "value_of" = (F_value_of (run n)).run := by
  funext r ds
  simp [run, tbl]
theorem go_value_of (n : Nat) (x0 : D) (x1 : D) {o : Out} {δ : Env} {r : Res} (h : G_value_of (run n) [.dat x0, .dat x1, .un, .un] = some (o, δ)) (ho : EV.outR o = some r) : run (n + 1) "value_of" none [x0, x1] = some (r, none) := by
  rw [run_value_of]
  exact EV.fn_v rfl rfl rfl h ho
theorem run_figures_of (n : Nat) : run (n + 1) "figures_of" = (F_figures_of (run n)).run := by
  funext r ds
  simp [run, tbl]
theorem go_figures_of (n : Nat) (x0 : D) (x1 : D) (x2 : D) (x3 : D) {o : Out} {δ : Env} {r : Res} (h : G_figures_of (run n) [.dat x0, .dat x1, .dat x2, .dat x3, .un, .un] = some (o, δ)) (ho : EV.outR o = some r) : run (n + 1) "figures_of" none [x0, x1, x2, x3] = some (r, none) := by
  rw [run_figures_of]
  exact EV.fn_v rfl rfl rfl h ho
theorem run_rest_above (n : Nat) : run (n + 1) "rest_above" = (F_rest_above (run n)).run := by
  funext r ds
  simp [run, tbl]
theorem go_rest_above (n : Nat) (x0 : D) (x1 : D) (x2 : D) {o : Out} {δ : Env} {r : Res} (h : G_rest_above (run n) [.dat x0, .dat x1, .dat x2] = some (o, δ)) (ho : EV.outR o = some r) : run (n + 1) "rest_above" none [x0, x1, x2] = some (r, none) := by
  rw [run_rest_above]
  exact EV.fn_v rfl rfl rfl h ho
theorem run__first_figure (n : Nat) : run (n + 1) "_first_figure" = (F__first_figure (run n)).run := by
  funext r ds
  simp [run, tbl]
theorem go__first_figure (n : Nat) (x0 : D) (x1 : D) (x2 : D) {o : Out} {δ : Env} {r : Res} (h : G__first_figure (run n) [.dat x0, .dat x1, .dat x2] = some (o, δ)) (ho : EV.outR o = some r) : run (n + 1) "_first_figure" none [x0, x1, x2] = some (r, none) := by
  rw [run__first_figure]
  exact EV.fn_v rfl rfl rfl h ho
theorem run_carry_span (n : Nat) : run (n + 1) "carry_span" = (F_carry_span (run n)).run := by
  funext r ds
  simp [run, tbl]
theorem go_carry_span (n : Nat) (x0 : D) (x1 : D) {o : Out} {δ : Env} {r : Res} (h : G_carry_span (run n) [.dat x0, .dat x1, .un, .un] = some (o, δ)) (ho : EV.outR o = some r) : run (n + 1) "carry_span" none [x0, x1] = some (r, none) := by
  rw [run_carry_span]
  exact EV.fn_v rfl rfl rfl h ho
theorem run_least_fraction (n : Nat) : run (n + 1) "least_fraction" = (F_least_fraction (run n)).run := by
  funext r ds
  simp [run, tbl]
theorem go_least_fraction (n : Nat) (x0 : D) (x1 : D) {o : Out} {δ : Env} {r : Res} (h : G_least_fraction (run n) [.dat x0, .dat x1] = some (o, δ)) (ho : EV.outR o = some r) : run (n + 1) "least_fraction" none [x0, x1] = some (r, none) := by
  rw [run_least_fraction]
  exact EV.fn_v rfl rfl rfl h ho
theorem run__least_of (n : Nat) : run (n + 1) "_least_of" = (F__least_of (run n)).run := by
  funext r ds
  simp [run, tbl]
theorem go__least_of (n : Nat) (x0 : D) (x1 : D) {o : Out} {δ : Env} {r : Res} (h : G__least_of (run n) [.dat x0, .dat x1, .un, .un, .un] = some (o, δ)) (ho : EV.outR o = some r) : run (n + 1) "_least_of" none [x0, x1] = some (r, none) := by
  rw [run__least_of]
  exact EV.fn_v rfl rfl rfl h ho
theorem run__fitting (n : Nat) : run (n + 1) "_fitting" = (F__fitting (run n)).run := by
  funext r ds
  simp [run, tbl]
theorem go__fitting (n : Nat) (x0 : D) (x1 : D) {o : Out} {δ : Env} {r : Res} (h : G__fitting (run n) [.dat x0, .dat x1] = some (o, δ)) (ho : EV.outR o = some r) : run (n + 1) "_fitting" none [x0, x1] = some (r, none) := by
  rw [run__fitting]
  exact EV.fn_v rfl rfl rfl h ho
theorem run__reduced (n : Nat) : run (n + 1) "_reduced" = (F__reduced (run n)).run := by
  funext r ds
  simp [run, tbl]
theorem go__reduced (n : Nat) (x0 : D) (x1 : D) {o : Out} {δ : Env} {r : Res} (h : G__reduced (run n) [.dat x0, .dat x1, .un] = some (o, δ)) (ho : EV.outR o = some r) : run (n + 1) "_reduced" none [x0, x1] = some (r, none) := by
  rw [run__reduced]
  exact EV.fn_v rfl rfl rfl h ho
theorem run__nearest (n : Nat) : run (n + 1) "_nearest" = (F__nearest (run n)).run := by
  funext r ds
  simp [run, tbl]
theorem go__nearest (n : Nat) (x0 : D) (x1 : D) {o : Out} {δ : Env} {r : Res} (h : G__nearest (run n) [.dat x0, .dat x1, .un, .un, .un, .un, .un, .un] = some (o, δ)) (ho : EV.outR o = some r) : run (n + 1) "_nearest" none [x0, x1] = some (r, none) := by
  rw [run__nearest]
  exact EV.fn_v rfl rfl rfl h ho
theorem run__less (n : Nat) : run (n + 1) "_less" = (F__less (run n)).run := by
  funext r ds
  simp [run, tbl]
theorem go__less (n : Nat) (x0 : D) (x1 : D) (x2 : D) {o : Out} {δ : Env} {r : Res} (h : G__less (run n) [.dat x0, .dat x1, .dat x2] = some (o, δ)) (ho : EV.outR o = some r) : run (n + 1) "_less" none [x0, x1, x2] = some (r, none) := by
  rw [run__less]
  exact EV.fn_v rfl rfl rfl h ho
theorem run__size (n : Nat) : run (n + 1) "_size" = (F__size (run n)).run := by
  funext r ds
  simp [run, tbl]
theorem go__size (n : Nat) (x0 : D) {o : Out} {δ : Env} {r : Res} (h : G__size (run n) [.dat x0] = some (o, δ)) (ho : EV.outR o = some r) : run (n + 1) "_size" none [x0] = some (r, none) := by
  rw [run__size]
  exact EV.fn_v rfl rfl rfl h ho
theorem run_fraction_row (n : Nat) : run (n + 1) "fraction_row" = (F_fraction_row (run n)).run := by
  funext r ds
  simp [run, tbl]
theorem go_fraction_row (n : Nat) (x0 : D) (x1 : D) (x2 : D) {o : Out} {δ : Env} {r : Res} (h : G_fraction_row (run n) [.dat x0, .dat x1, .dat x2, .un, .un] = some (o, δ)) (ho : EV.outR o = some r) : run (n + 1) "fraction_row" none [x0, x1, x2] = some (r, none) := by
  rw [run_fraction_row]
  exact EV.fn_v rfl rfl rfl h ho
theorem run__law_taken (n : Nat) : run (n + 1) "_law_taken" = (F__law_taken (run n)).run := by
  funext r ds
  simp [run, tbl]
theorem go__law_taken (n : Nat) (xs : List D) (x1 : D) {o : Out} {δ : Env} {r : Res} {ys : List D} (h : G__law_taken (run n) [.prm xs, .dat x1, .un, .un] = some (o, δ)) (ho : EV.outR o = some r) (h0 : δ[0]? = some (.prm ys)) : run (n + 1) "_law_taken" (some xs) [x1] = some (r, some ys) := by
  rw [run__law_taken]
  exact EV.fn_r rfl rfl rfl h ho h0
theorem run__law_pick (n : Nat) : run (n + 1) "_law_pick" = (F__law_pick (run n)).run := by
  funext r ds
  simp [run, tbl]
theorem go__law_pick (n : Nat) (xs : List D) (x1 : D) {o : Out} {δ : Env} {r : Res} {ys : List D} (h : G__law_pick (run n) [.prm xs, .dat x1] = some (o, δ)) (ho : EV.outR o = some r) (h0 : δ[0]? = some (.prm ys)) : run (n + 1) "_law_pick" (some xs) [x1] = some (r, some ys) := by
  rw [run__law_pick]
  exact EV.fn_r rfl rfl rfl h ho h0
theorem run__law_prime (n : Nat) : run (n + 1) "_law_prime" = (F__law_prime (run n)).run := by
  funext r ds
  simp [run, tbl]
theorem go__law_prime (n : Nat) (xs : List D) {o : Out} {δ : Env} {r : Res} {ys : List D} (h : G__law_prime (run n) [.prm xs] = some (o, δ)) (ho : EV.outR o = some r) (h0 : δ[0]? = some (.prm ys)) : run (n + 1) "_law_prime" (some xs) [] = some (r, some ys) := by
  rw [run__law_prime]
  exact EV.fn_r rfl rfl rfl h ho h0
theorem run__law_low (n : Nat) : run (n + 1) "_law_low" = (F__law_low (run n)).run := by
  funext r ds
  simp [run, tbl]
theorem go__law_low (n : Nat) (xs : List D) (x1 : D) (x2 : D) {o : Out} {δ : Env} {r : Res} {ys : List D} (h : G__law_low (run n) [.prm xs, .dat x1, .dat x2, .un] = some (o, δ)) (ho : EV.outR o = some r) (h0 : δ[0]? = some (.prm ys)) : run (n + 1) "_law_low" (some xs) [x1, x2] = some (r, some ys) := by
  rw [run__law_low]
  exact EV.fn_r rfl rfl rfl h ho h0
theorem run__law_shared (n : Nat) : run (n + 1) "_law_shared" = (F__law_shared (run n)).run := by
  funext r ds
  simp [run, tbl]
theorem go__law_shared (n : Nat) (x0 : D) (x1 : D) {o : Out} {δ : Env} {r : Res} (h : G__law_shared (run n) [.dat x0, .dat x1, .un] = some (o, δ)) (ho : EV.outR o = some r) : run (n + 1) "_law_shared" none [x0, x1] = some (r, none) := by
  rw [run__law_shared]
  exact EV.fn_v rfl rfl rfl h ho
theorem run__law_lowest_of (n : Nat) : run (n + 1) "_law_lowest_of" = (F__law_lowest_of (run n)).run := by
  funext r ds
  simp [run, tbl]
theorem go__law_lowest_of (n : Nat) (x0 : D) (x1 : D) {o : Out} {δ : Env} {r : Res} (h : G__law_lowest_of (run n) [.dat x0, .dat x1, .un] = some (o, δ)) (ho : EV.outR o = some r) : run (n + 1) "_law_lowest_of" none [x0, x1] = some (r, none) := by
  rw [run__law_lowest_of]
  exact EV.fn_v rfl rfl rfl h ho
theorem run__law_alike (n : Nat) : run (n + 1) "_law_alike" = (F__law_alike (run n)).run := by
  funext r ds
  simp [run, tbl]
theorem go__law_alike (n : Nat) (x0 : D) (x1 : D) {o : Out} {δ : Env} {r : Res} (h : G__law_alike (run n) [.dat x0, .dat x1, .un] = some (o, δ)) (ho : EV.outR o = some r) : run (n + 1) "_law_alike" none [x0, x1] = some (r, none) := by
  rw [run__law_alike]
  exact EV.fn_v rfl rfl rfl h ho
theorem run_law (n : Nat) : run (n + 1) "law" = (F_law (run n)).run := by
  funext r ds
  simp [run, tbl]
theorem body_law (c : Call) : (F_law c).body = G_law c := rfl
theorem go_law (n : Nat) (x0 : D) {o : Out} {δ : Env} {r : Res} (h : G_law (run n) [.dat x0, .un, .un, .un, .un, .un, .un, .un, .un, .un, .un, .un, .un, .un, .un, .un] = some (o, δ)) (ho : EV.outR o = some r) : run (n + 1) "law" none [x0] = some (r, none) := by
  rw [run_law]
  exact EV.fn_v (F := F_law (run n)) (δ0 := [.dat x0, .un, .un, .un, .un, .un, .un, .un, .un, .un, .un, .un, .un, .un, .un, .un]) rfl rfl rfl ((congrFun (body_law (run n)) _).trans h) ho
end IPL
end
section
set_option Elab.async false
set_option linter.all false
set_option maxRecDepth 100000
set_option maxHeartbeats 1000000
namespace IPL
open PySem PySem.Spec PyProof.Rows L2 IP
def topS (i : Nat) : Stmt := PySem.Challenge.pw_taprows_k70_whole_fractions_told_back.main.body.getD i (.Pass ⟨0, 0, 0, 0⟩)
theorem b_abs : bootBuiltins "abs" = some (.builtin "abs") := by decide +kernel
theorem b_all : bootBuiltins "all" = some (.builtin "all") := by decide +kernel
theorem b_bool : bootBuiltins "bool" = some (.type "bool") := by decide +kernel
theorem b_int : bootBuiltins "int" = some (.type "int") := by decide +kernel
theorem b_isinstance : bootBuiltins "isinstance" = some (.builtin "isinstance") := by decide +kernel
theorem b_len : bootBuiltins "len" = some (.builtin "len") := by decide +kernel
theorem b_list : bootBuiltins "list" = some (.type "list") := by decide +kernel
theorem b_max : bootBuiltins "max" = some (.builtin "max") := by decide +kernel
theorem b_min : bootBuiltins "min" = some (.builtin "min") := by decide +kernel
theorem b_str : bootBuiltins "str" = some (.type "str") := by decide +kernel
theorem b_tuple : bootBuiltins "tuple" = some (.type "tuple") := by decide +kernel
abbrev N_power_of : List Str := ["base", "exponent", "result", "place"]
abbrev P_power_of : List Str := ["base", "exponent"]
theorem sc_power_of : FnScope N_power_of P_power_of (defScope (topS 7)) := ⟨rfl, rfl, rfl, by decide +kernel, rfl, by decide +kernel, by decide +kernel⟩
abbrev N_inverse : List Str := ["prime", "number", "other"]
abbrev P_inverse : List Str := ["prime", "number"]
theorem sc_inverse : FnScope N_inverse P_inverse (defScope (topS 8)) := ⟨rfl, rfl, rfl, by decide +kernel, rfl, by decide +kernel, by decide +kernel⟩
abbrev N_is_between : List Str := ["value", "least", "most"]
abbrev P_is_between : List Str := ["value", "least", "most"]
theorem sc_is_between : FnScope N_is_between P_is_between (defScope (topS 13)) := ⟨rfl, rfl, rfl, by decide +kernel, rfl, by decide +kernel, by decide +kernel⟩
abbrev N_are_numbers : List Str := ["prime", "value", "most", "number"]
abbrev P_are_numbers : List Str := ["prime", "value", "most"]
theorem sc_are_numbers : FnScope N_are_numbers P_are_numbers (defScope (topS 14)) := ⟨rfl, rfl, rfl, by decide +kernel, rfl, by decide +kernel, by decide +kernel⟩
abbrev N_check_prime : List Str := ["value"]
abbrev P_check_prime : List Str := ["value"]
theorem sc_check_prime : FnScope N_check_prime P_check_prime (defScope (topS 15)) := ⟨rfl, rfl, rfl, by decide +kernel, rfl, by decide +kernel, by decide +kernel⟩
abbrev N_check_number : List Str := ["value", "least", "most"]
abbrev P_check_number : List Str := ["value", "least", "most"]
theorem sc_check_number : FnScope N_check_number P_check_number (defScope (topS 16)) := ⟨rfl, rfl, rfl, by decide +kernel, rfl, by decide +kernel, by decide +kernel⟩
abbrev N_check_row : List Str := ["prime", "value"]
abbrev P_check_row : List Str := ["prime", "value"]
theorem sc_check_row : FnScope N_check_row P_check_row (defScope (topS 17)) := ⟨rfl, rfl, rfl, by decide +kernel, rfl, by decide +kernel, by decide +kernel⟩
abbrev N_check_fraction : List Str := ["prime", "value", "above", "low"]
abbrev P_check_fraction : List Str := ["prime", "value"]
theorem sc_check_fraction : FnScope N_check_fraction P_check_fraction (defScope (topS 18)) := ⟨rfl, rfl, rfl, by decide +kernel, rfl, by decide +kernel, by decide +kernel⟩
abbrev N_value_of : List Str := ["prime", "row", "value", "number"]
abbrev P_value_of : List Str := ["prime", "row"]
theorem sc_value_of : FnScope N_value_of P_value_of (defScope (topS 20)) := ⟨rfl, rfl, rfl, by decide +kernel, rfl, by decide +kernel, by decide +kernel⟩
abbrev N_figures_of : List Str := ["prime", "above", "low", "count", "row", "_"]
abbrev P_figures_of : List Str := ["prime", "above", "low", "count"]
theorem sc_figures_of : FnScope N_figures_of P_figures_of (defScope (topS 21)) := ⟨rfl, rfl, rfl, by decide +kernel, rfl, by decide +kernel, by decide +kernel⟩
abbrev N_rest_above : List Str := ["prime", "above", "low"]
abbrev P_rest_above : List Str := ["prime", "above", "low"]
theorem sc_rest_above : FnScope N_rest_above P_rest_above (defScope (topS 22)) := ⟨rfl, rfl, rfl, by decide +kernel, rfl, by decide +kernel, by decide +kernel⟩
abbrev N__first_figure : List Str := ["prime", "above", "low"]
abbrev P__first_figure : List Str := ["prime", "above", "low"]
theorem sc__first_figure : FnScope N__first_figure P__first_figure (defScope (topS 23)) := ⟨rfl, rfl, rfl, by decide +kernel, rfl, by decide +kernel, by decide +kernel⟩
abbrev N_carry_span : List Str := ["prime", "row", "above", "low"]
abbrev P_carry_span : List Str := ["prime", "row"]
theorem sc_carry_span : FnScope N_carry_span P_carry_span (defScope (topS 25)) := ⟨rfl, rfl, rfl, by decide +kernel, rfl, by decide +kernel, by decide +kernel⟩
abbrev N_least_fraction : List Str := ["prime", "row"]
abbrev P_least_fraction : List Str := ["prime", "row"]
theorem sc_least_fraction : FnScope N_least_fraction P_least_fraction (defScope (topS 26)) := ⟨rfl, rfl, rfl, by decide +kernel, rfl, by decide +kernel, by decide +kernel⟩
abbrev N__least_of : List Str := ["prime", "row", "whole", "above", "low"]
abbrev P__least_of : List Str := ["prime", "row"]
theorem sc__least_of : FnScope N__least_of P__least_of (defScope (topS 27)) := ⟨rfl, rfl, rfl, by decide +kernel, rfl, by decide +kernel, by decide +kernel⟩
abbrev N__fitting : List Str := ["prime", "pairs"]
abbrev P__fitting : List Str := ["prime", "pairs"]
theorem sc__fitting : FnScope N__fitting P__fitting (defScope (topS 28)) := ⟨rfl, rfl, rfl, by decide +kernel, rfl, by decide +kernel, by decide +kernel⟩
abbrev N__reduced : List Str := ["one", "other", "rest"]
abbrev P__reduced : List Str := ["one", "other"]
theorem sc__reduced : FnScope N__reduced P__reduced (defScope (topS 29)) := ⟨rfl, rfl, rfl, by decide +kernel, rfl, by decide +kernel, by decide +kernel⟩
abbrev N__nearest : List Str := ["pair", "step", "places", "beside", "found", "above", "low", "many"]
abbrev P__nearest : List Str := ["pair", "step"]
theorem sc__nearest : FnScope N__nearest P__nearest (defScope (topS 30)) := ⟨rfl, rfl, rfl, by decide +kernel, rfl, by decide +kernel, by decide +kernel⟩
abbrev N__less : List Str := ["pair", "step", "many"]
abbrev P__less : List Str := ["pair", "step", "many"]
theorem sc__less : FnScope N__less P__less (defScope (topS 31)) := ⟨rfl, rfl, rfl, by decide +kernel, rfl, by decide +kernel, by decide +kernel⟩
abbrev N__size : List Str := ["pair"]
abbrev P__size : List Str := ["pair"]
theorem sc__size : FnScope N__size P__size (defScope (topS 32)) := ⟨rfl, rfl, rfl, by decide +kernel, rfl, by decide +kernel, by decide +kernel⟩
abbrev N_fraction_row : List Str := ["prime", "fraction", "count", "above", "low"]
abbrev P_fraction_row : List Str := ["prime", "fraction", "count"]
theorem sc_fraction_row : FnScope N_fraction_row P_fraction_row (defScope (topS 34)) := ⟨rfl, rfl, rfl, by decide +kernel, rfl, by decide +kernel, by decide +kernel⟩
abbrev N__law_taken : List Str := ["row", "many", "found", "cell"]
abbrev P__law_taken : List Str := ["row", "many"]
theorem sc__law_taken : FnScope N__law_taken P__law_taken (defScope (topS 36)) := ⟨rfl, rfl, rfl, by decide +kernel, rfl, by decide +kernel, by decide +kernel⟩
abbrev N__law_pick : List Str := ["row", "things"]
abbrev P__law_pick : List Str := ["row", "things"]
theorem sc__law_pick : FnScope N__law_pick P__law_pick (defScope (topS 37)) := ⟨rfl, rfl, rfl, by decide +kernel, rfl, by decide +kernel, by decide +kernel⟩
abbrev N__law_prime : List Str := ["row"]
abbrev P__law_prime : List Str := ["row"]
theorem sc__law_prime : FnScope N__law_prime P__law_prime (defScope (topS 38)) := ⟨rfl, rfl, rfl, by decide +kernel, rfl, by decide +kernel, by decide +kernel⟩
abbrev N__law_low : List Str := ["row", "prime", "most", "found"]
abbrev P__law_low : List Str := ["row", "prime", "most"]
theorem sc__law_low : FnScope N__law_low P__law_low (defScope (topS 39)) := ⟨rfl, rfl, rfl, by decide +kernel, rfl, by decide +kernel, by decide +kernel⟩
abbrev N__law_shared : List Str := ["a", "b", "turn"]
abbrev P__law_shared : List Str := ["a", "b"]
theorem sc__law_shared : FnScope N__law_shared P__law_shared (defScope (topS 40)) := ⟨rfl, rfl, rfl, by decide +kernel, rfl, by decide +kernel, by decide +kernel⟩
abbrev N__law_lowest_of : List Str := ["above", "low", "shared"]
abbrev P__law_lowest_of : List Str := ["above", "low"]
theorem sc__law_lowest_of : FnScope N__law_lowest_of P__law_lowest_of (defScope (topS 41)) := ⟨rfl, rfl, rfl, by decide +kernel, rfl, by decide +kernel, by decide +kernel⟩
abbrev N__law_alike : List Str := ["found", "due", "k"]
abbrev P__law_alike : List Str := ["found", "due"]
theorem sc__law_alike : FnScope N__law_alike P__law_alike (defScope (topS 42)) := ⟨rfl, rfl, rfl, by decide +kernel, rfl, by decide +kernel, by decide +kernel⟩
abbrev N_law : List Str := ["script", "row", "prime", "most", "above", "low", "due", "size", "power", "turn", "some", "loose", "before", "told", "found", "at"]
abbrev P_law : List Str := ["script"]
theorem sc_law : FnScope N_law P_law (defScope (topS 43)) := ⟨rfl, rfl, rfl, by decide +kernel, rfl, by decide +kernel, by decide +kernel⟩
structure Tx (P : Program) (w : World) (base : Heap) (K : PySem.W.Frag) (mg : Str → Option Value) (fd : Nat → FuncData) : Prop where
  m_abs : mg "abs" = none
  m_all : mg "all" = none
  m_bool : mg "bool" = none
  m_int : mg "int" = none
  m_isinstance : mg "isinstance" = none
  m_len : mg "len" = none
  m_list : mg "list" = none
  m_max : mg "max" = none
  m_min : mg "min" = none
  m_range : mg "range" = none
  m_reversed : mg "reversed" = none
  m_str : mg "str" = none
  m_tuple : mg "tuple" = none
  c_MOST_NUMBERS : ∃ t, mg "MOST_NUMBERS" = some (.int 400 t)
  c_MOST_PART : ∃ t, mg "MOST_PART" = some (.int 1000000000000000000000000000000000000000000000000000000000000 t)
  g_PRIMES : mg "PRIMES" = some (.ref (He.ga K "PRIMES"))
  t_PRIMES : ∀ H, SqT K H (He.ga K "PRIMES") (([2, 3, 5, 7] : List Int).map V.int)
  g_power_of : mg "power_of" = some (.ref (He.ga K "power_of"))
  f_power_of : FunD K "power_of" "power_of" (defArgs (topS 7)) (defBody (topS 7)) (defScope (topS 7)) [] [] (He.ga K "power_of") (fd 0)
  k_power_of : PySem.W.keepIn K (.ref (He.ga K "power_of")) = true
  b_power_of : Binds K (fd 0) P_power_of []
  g_inverse : mg "inverse" = some (.ref (He.ga K "inverse"))
  f_inverse : FunD K "inverse" "inverse" (defArgs (topS 8)) (defBody (topS 8)) (defScope (topS 8)) [] [] (He.ga K "inverse") (fd 1)
  k_inverse : PySem.W.keepIn K (.ref (He.ga K "inverse")) = true
  b_inverse : Binds K (fd 1) P_inverse []
  g_is_between : mg "is_between" = some (.ref (He.ga K "is_between"))
  f_is_between : FunD K "is_between" "is_between" (defArgs (topS 13)) (defBody (topS 13)) (defScope (topS 13)) [] [] (He.ga K "is_between") (fd 2)
  k_is_between : PySem.W.keepIn K (.ref (He.ga K "is_between")) = true
  b_is_between : Binds K (fd 2) P_is_between []
  g_are_numbers : mg "are_numbers" = some (.ref (He.ga K "are_numbers"))
  f_are_numbers : FunD K "are_numbers" "are_numbers" (defArgs (topS 14)) (defBody (topS 14)) (defScope (topS 14)) [] [] (He.ga K "are_numbers") (fd 3)
  k_are_numbers : PySem.W.keepIn K (.ref (He.ga K "are_numbers")) = true
  b_are_numbers : Binds K (fd 3) P_are_numbers []
  g_check_prime : mg "check_prime" = some (.ref (He.ga K "check_prime"))
  f_check_prime : FunD K "check_prime" "check_prime" (defArgs (topS 15)) (defBody (topS 15)) (defScope (topS 15)) [] [] (He.ga K "check_prime") (fd 4)
  k_check_prime : PySem.W.keepIn K (.ref (He.ga K "check_prime")) = true
  b_check_prime : Binds K (fd 4) P_check_prime []
  g_check_number : mg "check_number" = some (.ref (He.ga K "check_number"))
  f_check_number : FunD K "check_number" "check_number" (defArgs (topS 16)) (defBody (topS 16)) (defScope (topS 16)) [] [] (He.ga K "check_number") (fd 5)
  k_check_number : PySem.W.keepIn K (.ref (He.ga K "check_number")) = true
  b_check_number : Binds K (fd 5) P_check_number []
  g_check_row : mg "check_row" = some (.ref (He.ga K "check_row"))
  f_check_row : FunD K "check_row" "check_row" (defArgs (topS 17)) (defBody (topS 17)) (defScope (topS 17)) [] [] (He.ga K "check_row") (fd 6)
  k_check_row : PySem.W.keepIn K (.ref (He.ga K "check_row")) = true
  b_check_row : Binds K (fd 6) P_check_row []
  g_check_fraction : mg "check_fraction" = some (.ref (He.ga K "check_fraction"))
  f_check_fraction : FunD K "check_fraction" "check_fraction" (defArgs (topS 18)) (defBody (topS 18)) (defScope (topS 18)) [] [] (He.ga K "check_fraction") (fd 7)
  k_check_fraction : PySem.W.keepIn K (.ref (He.ga K "check_fraction")) = true
  b_check_fraction : Binds K (fd 7) P_check_fraction []
  g_value_of : mg "value_of" = some (.ref (He.ga K "value_of"))
  f_value_of : FunD K "value_of" "value_of" (defArgs (topS 20)) (defBody (topS 20)) (defScope (topS 20)) [] [] (He.ga K "value_of") (fd 8)
  k_value_of : PySem.W.keepIn K (.ref (He.ga K "value_of")) = true
  b_value_of : Binds K (fd 8) P_value_of []
  g_figures_of : mg "figures_of" = some (.ref (He.ga K "figures_of"))
  f_figures_of : FunD K "figures_of" "figures_of" (defArgs (topS 21)) (defBody (topS 21)) (defScope (topS 21)) [] [] (He.ga K "figures_of") (fd 9)
  k_figures_of : PySem.W.keepIn K (.ref (He.ga K "figures_of")) = true
  b_figures_of : Binds K (fd 9) P_figures_of []
  g_rest_above : mg "rest_above" = some (.ref (He.ga K "rest_above"))
  f_rest_above : FunD K "rest_above" "rest_above" (defArgs (topS 22)) (defBody (topS 22)) (defScope (topS 22)) [] [] (He.ga K "rest_above") (fd 10)
  k_rest_above : PySem.W.keepIn K (.ref (He.ga K "rest_above")) = true
  b_rest_above : Binds K (fd 10) P_rest_above []
  g__first_figure : mg "_first_figure" = some (.ref (He.ga K "_first_figure"))
  f__first_figure : FunD K "_first_figure" "_first_figure" (defArgs (topS 23)) (defBody (topS 23)) (defScope (topS 23)) [] [] (He.ga K "_first_figure") (fd 11)
  k__first_figure : PySem.W.keepIn K (.ref (He.ga K "_first_figure")) = true
  b__first_figure : Binds K (fd 11) P__first_figure []
  g_carry_span : mg "carry_span" = some (.ref (He.ga K "carry_span"))
  f_carry_span : FunD K "carry_span" "carry_span" (defArgs (topS 25)) (defBody (topS 25)) (defScope (topS 25)) [] [] (He.ga K "carry_span") (fd 12)
  k_carry_span : PySem.W.keepIn K (.ref (He.ga K "carry_span")) = true
  b_carry_span : Binds K (fd 12) P_carry_span []
  g_least_fraction : mg "least_fraction" = some (.ref (He.ga K "least_fraction"))
  f_least_fraction : FunD K "least_fraction" "least_fraction" (defArgs (topS 26)) (defBody (topS 26)) (defScope (topS 26)) [] [] (He.ga K "least_fraction") (fd 13)
  k_least_fraction : PySem.W.keepIn K (.ref (He.ga K "least_fraction")) = true
  b_least_fraction : Binds K (fd 13) P_least_fraction []
  g__least_of : mg "_least_of" = some (.ref (He.ga K "_least_of"))
  f__least_of : FunD K "_least_of" "_least_of" (defArgs (topS 27)) (defBody (topS 27)) (defScope (topS 27)) [] [] (He.ga K "_least_of") (fd 14)
  k__least_of : PySem.W.keepIn K (.ref (He.ga K "_least_of")) = true
  b__least_of : Binds K (fd 14) P__least_of []
  g__fitting : mg "_fitting" = some (.ref (He.ga K "_fitting"))
  f__fitting : FunD K "_fitting" "_fitting" (defArgs (topS 28)) (defBody (topS 28)) (defScope (topS 28)) [] [] (He.ga K "_fitting") (fd 15)
  k__fitting : PySem.W.keepIn K (.ref (He.ga K "_fitting")) = true
  b__fitting : Binds K (fd 15) P__fitting []
  g__reduced : mg "_reduced" = some (.ref (He.ga K "_reduced"))
  f__reduced : FunD K "_reduced" "_reduced" (defArgs (topS 29)) (defBody (topS 29)) (defScope (topS 29)) [] [] (He.ga K "_reduced") (fd 16)
  k__reduced : PySem.W.keepIn K (.ref (He.ga K "_reduced")) = true
  b__reduced : Binds K (fd 16) P__reduced []
  g__nearest : mg "_nearest" = some (.ref (He.ga K "_nearest"))
  f__nearest : FunD K "_nearest" "_nearest" (defArgs (topS 30)) (defBody (topS 30)) (defScope (topS 30)) [] [] (He.ga K "_nearest") (fd 17)
  k__nearest : PySem.W.keepIn K (.ref (He.ga K "_nearest")) = true
  b__nearest : Binds K (fd 17) P__nearest []
  g__less : mg "_less" = some (.ref (He.ga K "_less"))
  f__less : FunD K "_less" "_less" (defArgs (topS 31)) (defBody (topS 31)) (defScope (topS 31)) [] [] (He.ga K "_less") (fd 18)
  k__less : PySem.W.keepIn K (.ref (He.ga K "_less")) = true
  b__less : Binds K (fd 18) P__less []
  g__size : mg "_size" = some (.ref (He.ga K "_size"))
  f__size : FunD K "_size" "_size" (defArgs (topS 32)) (defBody (topS 32)) (defScope (topS 32)) [] [] (He.ga K "_size") (fd 19)
  k__size : PySem.W.keepIn K (.ref (He.ga K "_size")) = true
  b__size : Binds K (fd 19) P__size []
  g_fraction_row : mg "fraction_row" = some (.ref (He.ga K "fraction_row"))
  f_fraction_row : FunD K "fraction_row" "fraction_row" (defArgs (topS 34)) (defBody (topS 34)) (defScope (topS 34)) [] [] (He.ga K "fraction_row") (fd 20)
  k_fraction_row : PySem.W.keepIn K (.ref (He.ga K "fraction_row")) = true
  b_fraction_row : Binds K (fd 20) P_fraction_row []
  g__law_taken : mg "_law_taken" = some (.ref (He.ga K "_law_taken"))
  f__law_taken : FunD K "_law_taken" "_law_taken" (defArgs (topS 36)) (defBody (topS 36)) (defScope (topS 36)) [] [] (He.ga K "_law_taken") (fd 21)
  k__law_taken : PySem.W.keepIn K (.ref (He.ga K "_law_taken")) = true
  b__law_taken : Binds K (fd 21) P__law_taken []
  g__law_pick : mg "_law_pick" = some (.ref (He.ga K "_law_pick"))
  f__law_pick : FunD K "_law_pick" "_law_pick" (defArgs (topS 37)) (defBody (topS 37)) (defScope (topS 37)) [] [] (He.ga K "_law_pick") (fd 22)
  k__law_pick : PySem.W.keepIn K (.ref (He.ga K "_law_pick")) = true
  b__law_pick : Binds K (fd 22) P__law_pick []
  g__law_prime : mg "_law_prime" = some (.ref (He.ga K "_law_prime"))
  f__law_prime : FunD K "_law_prime" "_law_prime" (defArgs (topS 38)) (defBody (topS 38)) (defScope (topS 38)) [] [] (He.ga K "_law_prime") (fd 23)
  k__law_prime : PySem.W.keepIn K (.ref (He.ga K "_law_prime")) = true
  b__law_prime : Binds K (fd 23) P__law_prime []
  g__law_low : mg "_law_low" = some (.ref (He.ga K "_law_low"))
  f__law_low : FunD K "_law_low" "_law_low" (defArgs (topS 39)) (defBody (topS 39)) (defScope (topS 39)) [] [] (He.ga K "_law_low") (fd 24)
  k__law_low : PySem.W.keepIn K (.ref (He.ga K "_law_low")) = true
  b__law_low : Binds K (fd 24) P__law_low []
  g__law_shared : mg "_law_shared" = some (.ref (He.ga K "_law_shared"))
  f__law_shared : FunD K "_law_shared" "_law_shared" (defArgs (topS 40)) (defBody (topS 40)) (defScope (topS 40)) [] [] (He.ga K "_law_shared") (fd 25)
  k__law_shared : PySem.W.keepIn K (.ref (He.ga K "_law_shared")) = true
  b__law_shared : Binds K (fd 25) P__law_shared []
  g__law_lowest_of : mg "_law_lowest_of" = some (.ref (He.ga K "_law_lowest_of"))
  f__law_lowest_of : FunD K "_law_lowest_of" "_law_lowest_of" (defArgs (topS 41)) (defBody (topS 41)) (defScope (topS 41)) [] [] (He.ga K "_law_lowest_of") (fd 26)
  k__law_lowest_of : PySem.W.keepIn K (.ref (He.ga K "_law_lowest_of")) = true
  b__law_lowest_of : Binds K (fd 26) P__law_lowest_of []
  g__law_alike : mg "_law_alike" = some (.ref (He.ga K "_law_alike"))
  f__law_alike : FunD K "_law_alike" "_law_alike" (defArgs (topS 42)) (defBody (topS 42)) (defScope (topS 42)) [] [] (He.ga K "_law_alike") (fd 27)
  k__law_alike : PySem.W.keepIn K (.ref (He.ga K "_law_alike")) = true
  b__law_alike : Binds K (fd 27) P__law_alike []
  g_law : mg "law" = some (.ref (He.ga K "law"))
  f_law : FunD K "law" "law" (defArgs (topS 43)) (defBody (topS 43)) (defScope (topS 43)) [] [] (He.ga K "law") (fd 28)
  k_law : PySem.W.keepIn K (.ref (He.ga K "law")) = true
  b_law : Binds K (fd 28) P_law []
structure Ih (P : Program) (w : World) (K : PySem.W.Frag) (mg : Str → Option Value) (base : Heap) (fd : Nat → FuncData) (n : Nat) : Prop where
  i_power_of : FnOk P w K mg base CX0 n (He.ga K "power_of") (fd 0) P_power_of (spI K (run n "power_of"))
  i_inverse : FnOk P w K mg base CX0 n (He.ga K "inverse") (fd 1) P_inverse (spI K (run n "inverse"))
  i_is_between : FnOk P w K mg base CX0 n (He.ga K "is_between") (fd 2) P_is_between (spI K (run n "is_between"))
  i_are_numbers : FnOk P w K mg base CX0 n (He.ga K "are_numbers") (fd 3) P_are_numbers (spI K (run n "are_numbers"))
  i_check_prime : FnOk P w K mg base CX0 n (He.ga K "check_prime") (fd 4) P_check_prime (spI K (run n "check_prime"))
  i_check_number : FnOk P w K mg base CX0 n (He.ga K "check_number") (fd 5) P_check_number (spI K (run n "check_number"))
  i_check_row : FnOk P w K mg base CX0 n (He.ga K "check_row") (fd 6) P_check_row (spI K (run n "check_row"))
  i_check_fraction : FnOk P w K mg base CX0 n (He.ga K "check_fraction") (fd 7) P_check_fraction (spI K (run n "check_fraction"))
  i_value_of : FnOk P w K mg base CX0 n (He.ga K "value_of") (fd 8) P_value_of (spI K (run n "value_of"))
  i_figures_of : FnOk P w K mg base CX0 n (He.ga K "figures_of") (fd 9) P_figures_of (spI K (run n "figures_of"))
  i_rest_above : FnOk P w K mg base CX0 n (He.ga K "rest_above") (fd 10) P_rest_above (spI K (run n "rest_above"))
  i__first_figure : FnOk P w K mg base CX0 n (He.ga K "_first_figure") (fd 11) P__first_figure (spI K (run n "_first_figure"))
  i_carry_span : FnOk P w K mg base CX0 n (He.ga K "carry_span") (fd 12) P_carry_span (spI K (run n "carry_span"))
  i_least_fraction : FnOk P w K mg base CX0 n (He.ga K "least_fraction") (fd 13) P_least_fraction (spI K (run n "least_fraction"))
  i__least_of : FnOk P w K mg base CX0 n (He.ga K "_least_of") (fd 14) P__least_of (spI K (run n "_least_of"))
  i__fitting : FnOk P w K mg base CX0 n (He.ga K "_fitting") (fd 15) P__fitting (spI K (run n "_fitting"))
  i__reduced : FnOk P w K mg base CX0 n (He.ga K "_reduced") (fd 16) P__reduced (spI K (run n "_reduced"))
  i__nearest : FnOk P w K mg base CX0 n (He.ga K "_nearest") (fd 17) P__nearest (spI K (run n "_nearest"))
  i__less : FnOk P w K mg base CX0 n (He.ga K "_less") (fd 18) P__less (spI K (run n "_less"))
  i__size : FnOk P w K mg base CX0 n (He.ga K "_size") (fd 19) P__size (spI K (run n "_size"))
  i_fraction_row : FnOk P w K mg base CX0 n (He.ga K "fraction_row") (fd 20) P_fraction_row (spI K (run n "fraction_row"))
  i__law_taken : FnOk P w K mg base CX0 n (He.ga K "_law_taken") (fd 21) P__law_taken (spI K (run n "_law_taken"))
  i__law_pick : FnOk P w K mg base CX0 n (He.ga K "_law_pick") (fd 22) P__law_pick (spI K (run n "_law_pick"))
  i__law_prime : FnOk P w K mg base CX0 n (He.ga K "_law_prime") (fd 23) P__law_prime (spI K (run n "_law_prime"))
  i__law_low : FnOk P w K mg base CX0 n (He.ga K "_law_low") (fd 24) P__law_low (spI K (run n "_law_low"))
  i__law_shared : FnOk P w K mg base CX0 n (He.ga K "_law_shared") (fd 25) P__law_shared (spI K (run n "_law_shared"))
  i__law_lowest_of : FnOk P w K mg base CX0 n (He.ga K "_law_lowest_of") (fd 26) P__law_lowest_of (spI K (run n "_law_lowest_of"))
  i__law_alike : FnOk P w K mg base CX0 n (He.ga K "_law_alike") (fd 27) P__law_alike (spI K (run n "_law_alike"))
  i_law : FnOk P w K mg base CX0 n (He.ga K "law") (fd 28) P_law (spI K (run n "law"))
section
variable {P : Program} {w : World} {K : PySem.W.Frag} {mg : Str → Option Value} {base : Heap} {fd : Nat → FuncData}
theorem ok_power_of (T : Tx P w base K mg fd) {n : Nat} (I : Ih P w K mg base fd n) : FnOk P w K mg base CX0 (n + 1) (He.ga K "power_of") (fd 0) P_power_of (spI K (run (n + 1) "power_of")) := by
  have nd := sc_power_of.nd
  rw [run_power_of]
  refine T.f_power_of.ok sc_power_of (fun vs H Q E h => spI_len rfl h) (fun cdv A outer s H vs Q E hr h => ⟨kS K (F_power_of (run n)).body, PSs.nox ?_, fn_read rfl (show (2 : Nat) ≤ 4 by decide) h⟩)
  exact (xb_cons (xs_set (i := 2) nd rfl (by first | exact Or.inl rfl | exact Or.inr rfl) x_int) (xb_cons (x_for PassesOwn.never rfl (xi_revR1 (by rfl) T.m_reversed (by rfl) T.m_range (o_v (x_bits (o_var (i := 1) rfl (by first | exact Or.inl rfl | exact Or.inr (Or.inl rfl) | exact Or.inr (Or.inr rfl)))))) (pg_name (i := 3) nd rfl (by first | exact Or.inl rfl | exact Or.inr rfl)) gs_nm (xb_cons (xs_set (i := 2) nd rfl (by first | exact Or.inl rfl | exact Or.inr rfl) (x_bin op_mulA s_mul (o_var (i := 2) rfl (by first | exact Or.inl rfl | exact Or.inr (Or.inl rfl) | exact Or.inr (Or.inr rfl))) (o_var (i := 2) rfl (by first | exact Or.inl rfl | exact Or.inr (Or.inl rfl) | exact Or.inr (Or.inr rfl))))) (xb_one (xs_if (x_truth (o_v (x_bin op_and s_and (o_v (x_bin op_shr s_shr (o_var (i := 1) rfl (by first | exact Or.inl rfl | exact Or.inr (Or.inl rfl) | exact Or.inr (Or.inr rfl))) (o_var (i := 3) rfl (by first | exact Or.inl rfl | exact Or.inr (Or.inl rfl) | exact Or.inr (Or.inr rfl))))) (o_v x_int))) (fun _ => rfl)) (xb_one (xs_set (i := 2) nd rfl (by first | exact Or.inl rfl | exact Or.inr rfl) (x_bin op_mulA s_mul (o_var (i := 2) rfl (by first | exact Or.inl rfl | exact Or.inr (Or.inl rfl) | exact Or.inr (Or.inr rfl))) (o_var (i := 0) rfl (by first | exact Or.inl rfl | exact Or.inr (Or.inl rfl) | exact Or.inr (Or.inr rfl)))))) xb_nil)))) (xb_one (xs_ret (x_var (i := 2) rfl (by first | exact Or.inl rfl | exact Or.inr (Or.inl rfl) | exact Or.inr (Or.inr rfl)))))))
theorem ok_inverse (T : Tx P w base K mg fd) {n : Nat} (I : Ih P w K mg base fd n) : FnOk P w K mg base CX0 (n + 1) (He.ga K "inverse") (fd 1) P_inverse (spI K (run (n + 1) "inverse")) := by
  have nd := sc_inverse.nd
  rw [run_inverse]
  refine T.f_inverse.ok sc_inverse (fun vs H Q E h => spI_len rfl h) (fun cdv A outer s H vs Q E hr h => ⟨kS K (F_inverse (run n)).body, PSs.nox ?_, fn_read rfl (show (2 : Nat) ≤ 3 by decide) h⟩)
  exact (xb_cons (xs_set (i := 2) nd rfl (by first | exact Or.inl rfl | exact Or.inr rfl) x_int) (xb_cons (x_while PassesOwn.never (x_cmpT (op_neD hr.units) s_ne (o_v (x_bin op_mod s_mod (o_v (x_bin op_mulA s_mul (o_var (i := 1) rfl (by first | exact Or.inl rfl | exact Or.inr (Or.inl rfl) | exact Or.inr (Or.inr rfl))) (o_var (i := 2) rfl (by first | exact Or.inl rfl | exact Or.inr (Or.inl rfl) | exact Or.inr (Or.inr rfl))))) (o_var (i := 0) rfl (by first | exact Or.inl rfl | exact Or.inr (Or.inl rfl) | exact Or.inr (Or.inr rfl))))) (o_v x_int) (nomark _)) (xb_one (xs_aug (i := 2) nd rfl (by first | exact Or.inl rfl | exact Or.inr rfl) (o_v x_int) ip_add))) (xb_one (xs_ret (x_var (i := 2) rfl (by first | exact Or.inl rfl | exact Or.inr (Or.inl rfl) | exact Or.inr (Or.inr rfl)))))))
theorem ok_is_between (T : Tx P w base K mg fd) {n : Nat} (I : Ih P w K mg base fd n) : FnOk P w K mg base CX0 (n + 1) (He.ga K "is_between") (fd 2) P_is_between (spI K (run (n + 1) "is_between")) := by
  have nd := sc_is_between.nd
  rw [run_is_between]
  refine T.f_is_between.ok sc_is_between (fun vs H Q E h => spI_len rfl h) (fun cdv A outer s H vs Q E hr h => ⟨kS K (F_is_between (run n)).body, PSs.nox ?_, fn_read rfl (show (3 : Nat) ≤ 3 by decide) h⟩)
  exact (xb_one (xs_ret (x_andV (x_isi1 (t := .int) (o_var (i := 0) rfl (by first | exact Or.inl rfl | exact Or.inr (Or.inl rfl) | exact Or.inr (Or.inr rfl))) (by rfl) T.m_isinstance b_isinstance (by rfl) T.m_int b_int) (x_andV (x_notV (x_isi1 (t := .bool) (o_var (i := 0) rfl (by first | exact Or.inl rfl | exact Or.inr (Or.inl rfl) | exact Or.inr (Or.inr rfl))) (by rfl) T.m_isinstance b_isinstance (by rfl) T.m_bool b_bool)) (pe_one (x_chain op_le op_le s_le s_le (o_var (i := 1) rfl (by first | exact Or.inl rfl | exact Or.inr (Or.inl rfl) | exact Or.inr (Or.inr rfl))) (o_var (i := 0) rfl (by first | exact Or.inl rfl | exact Or.inr (Or.inl rfl) | exact Or.inr (Or.inr rfl))) (o_var (i := 2) rfl (by first | exact Or.inl rfl | exact Or.inr (Or.inl rfl) | exact Or.inr (Or.inr rfl)))))))))
theorem ok_are_numbers (T : Tx P w base K mg fd) {n : Nat} (I : Ih P w K mg base fd n) : FnOk P w K mg base CX0 (n + 1) (He.ga K "are_numbers") (fd 3) P_are_numbers (spI K (run (n + 1) "are_numbers")) := by
  have nd := sc_are_numbers.nd
  rw [run_are_numbers]
  refine T.f_are_numbers.ok sc_are_numbers (fun vs H Q E h => spI_len rfl h) (fun cdv A outer s H vs Q E hr h => ⟨kS K (F_are_numbers (run n)).body, PSs.nox ?_, fn_read rfl (show (3 : Nat) ≤ 4 by decide) h⟩)
  exact (xb_cons (xs_if (PW.pt (x_or (x_not (x_truth (o_v (x_isi1 (t := .tuple) (o_var (i := 1) rfl (by first | exact Or.inl rfl | exact Or.inr (Or.inl rfl) | exact Or.inr (Or.inr rfl))) (by rfl) T.m_isinstance b_isinstance (by rfl) T.m_tuple b_tuple)) (fun _ => rfl))) (pw_or1 (x_cmpT op_gt s_gt (o_v (x_biB call_len_seq s_len (by rfl) T.m_len b_len (xa_cons (o_var (i := 1) rfl (by first | exact Or.inl rfl | exact Or.inr (Or.inl rfl) | exact Or.inr (Or.inr rfl))) xa_nil))) (o_var (i := 2) rfl (by first | exact Or.inl rfl | exact Or.inr (Or.inl rfl) | exact Or.inr (Or.inr rfl))) (nomark _))))) (xb_one (xs_ret x_bl)) xb_nil) (xb_one (xs_ret (x_biB (cr_all rfl) s_all (by rfl) T.m_all b_all (xa_cons (o_v (x_lc (own := [("number", 3)]) rfl nd (xi_seq (o_var (i := 1) rfl (by first | exact Or.inl rfl | exact Or.inr (Or.inl rfl) | exact Or.inr (Or.inr rfl)))) (blkOk_by (own := [("number", 3)]) (N := N_are_numbers) (sc := defScope (topS 14)) (by decide +kernel)) gs_nm (by simp [Tg.slots]) (fun _ _ _ _ _ => pg_name (i := 3) nd rfl (by first | exact Or.inl rfl | exact Or.inr rfl)) (fun _ _ _ _ _ => xts_nil) (fun _ _ _ _ _ => (x_call I.i_is_between hr (by rfl) T.g_is_between T.k_is_between T.b_is_between pass0 (xa_cons (o_var (i := 3) rfl (by first | exact Or.inl rfl | exact Or.inr (Or.inl rfl) | exact Or.inr (Or.inr rfl))) (xa_cons (o_v x_int) (xa_cons (o_v (x_bin op_sub s_sub (o_var (i := 0) rfl (by first | exact Or.inl rfl | exact Or.inr (Or.inl rfl) | exact Or.inr (Or.inr rfl))) (o_v x_int))) xa_nil))))))) xa_nil)))))
theorem ok_check_prime (T : Tx P w base K mg fd) {n : Nat} (I : Ih P w K mg base fd n) : FnOk P w K mg base CX0 (n + 1) (He.ga K "check_prime") (fd 4) P_check_prime (spI K (run (n + 1) "check_prime")) := by
  have nd := sc_check_prime.nd
  rw [run_check_prime]
  refine T.f_check_prime.ok sc_check_prime (fun vs H Q E h => spI_len rfl h) (fun cdv A outer s H vs Q E hr h => ⟨kS K (F_check_prime (run n)).body, PSs.nox ?_, fn_read rfl (show (1 : Nat) ≤ 1 by decide) h⟩)
  exact (xb_one (xs_if (PW.pt (x_or (x_not (x_truth (o_v (x_call I.i_is_between hr (by rfl) T.g_is_between T.k_is_between T.b_is_between pass0 (xa_cons (o_var (i := 0) rfl (by first | exact Or.inl rfl | exact Or.inr (Or.inl rfl) | exact Or.inr (Or.inr rfl))) (xa_cons (o_v x_int) (xa_cons (o_v x_int) xa_nil))))) (fun _ => rfl))) (pw_or1 (x_notInGT (is := [2, 3, 5, 7]) (o_var (i := 0) rfl (by first | exact Or.inl rfl | exact Or.inr (Or.inl rfl) | exact Or.inr (Or.inr rfl))) (by rfl) T.g_PRIMES T.t_PRIMES)))) (xb_one xs_never) xb_nil))
theorem ok_check_number (T : Tx P w base K mg fd) {n : Nat} (I : Ih P w K mg base fd n) : FnOk P w K mg base CX0 (n + 1) (He.ga K "check_number") (fd 5) P_check_number (spI K (run (n + 1) "check_number")) := by
  have nd := sc_check_number.nd
  rw [run_check_number]
  refine T.f_check_number.ok sc_check_number (fun vs H Q E h => spI_len rfl h) (fun cdv A outer s H vs Q E hr h => ⟨kS K (F_check_number (run n)).body, PSs.nox ?_, fn_read rfl (show (3 : Nat) ≤ 3 by decide) h⟩)
  exact (xb_one (xs_if (x_not (x_truth (o_v (x_call I.i_is_between hr (by rfl) T.g_is_between T.k_is_between T.b_is_between pass0 (xa_cons (o_var (i := 0) rfl (by first | exact Or.inl rfl | exact Or.inr (Or.inl rfl) | exact Or.inr (Or.inr rfl))) (xa_cons (o_var (i := 1) rfl (by first | exact Or.inl rfl | exact Or.inr (Or.inl rfl) | exact Or.inr (Or.inr rfl))) (xa_cons (o_var (i := 2) rfl (by first | exact Or.inl rfl | exact Or.inr (Or.inl rfl) | exact Or.inr (Or.inr rfl))) xa_nil))))) (fun _ => rfl))) (xb_one xs_never) xb_nil))
theorem ok_check_row (T : Tx P w base K mg fd) {n : Nat} (I : Ih P w K mg base fd n) : FnOk P w K mg base CX0 (n + 1) (He.ga K "check_row") (fd 6) P_check_row (spI K (run (n + 1) "check_row")) := by
  have nd := sc_check_row.nd
  rw [run_check_row]
  refine T.f_check_row.ok sc_check_row (fun vs H Q E h => spI_len rfl h) (fun cdv A outer s H vs Q E hr h => ⟨kS K (F_check_row (run n)).body, PSs.nox ?_, fn_read rfl (show (2 : Nat) ≤ 2 by decide) h⟩)
  exact (xb_one (xs_if (x_not (x_truth (o_v (x_call I.i_are_numbers hr (by rfl) T.g_are_numbers T.k_are_numbers T.b_are_numbers pass0 (xa_cons (o_var (i := 0) rfl (by first | exact Or.inl rfl | exact Or.inr (Or.inl rfl) | exact Or.inr (Or.inr rfl))) (xa_cons (o_var (i := 1) rfl (by first | exact Or.inl rfl | exact Or.inr (Or.inl rfl) | exact Or.inr (Or.inr rfl))) (xa_cons (o_v (x_globI (by rfl) T.c_MOST_NUMBERS)) xa_nil))))) (fun _ => rfl))) (xb_one xs_never) xb_nil))
theorem ok_check_fraction (T : Tx P w base K mg fd) {n : Nat} (I : Ih P w K mg base fd n) : FnOk P w K mg base CX0 (n + 1) (He.ga K "check_fraction") (fd 7) P_check_fraction (spI K (run (n + 1) "check_fraction")) := by
  have nd := sc_check_fraction.nd
  rw [run_check_fraction]
  refine T.f_check_fraction.ok sc_check_fraction (fun vs H Q E h => spI_len rfl h) (fun cdv A outer s H vs Q E hr h => ⟨kS K (F_check_fraction (run n)).body, PSs.nox ?_, fn_read rfl (show (2 : Nat) ≤ 4 by decide) h⟩)
  exact (xb_cons (xs_if (PW.pt (x_or (x_not (x_truth (o_v (x_isi1 (t := .tuple) (o_var (i := 1) rfl (by first | exact Or.inl rfl | exact Or.inr (Or.inl rfl) | exact Or.inr (Or.inr rfl))) (by rfl) T.m_isinstance b_isinstance (by rfl) T.m_tuple b_tuple)) (fun _ => rfl))) (pw_or1 (x_cmpT (op_neD hr.units) s_ne (o_v (x_biB call_len_seq s_len (by rfl) T.m_len b_len (xa_cons (o_var (i := 1) rfl (by first | exact Or.inl rfl | exact Or.inr (Or.inl rfl) | exact Or.inr (Or.inr rfl))) xa_nil))) (o_v x_int) (nomark _))))) (xb_one xs_never) xb_nil) (xb_cons (xs_unp (pg_tup rfl (pgs_cons (pg_name (i := 2) nd rfl (by first | exact Or.inl rfl | exact Or.inr rfl)) (pgs_cons (pg_name (i := 3) nd rfl (by first | exact Or.inl rfl | exact Or.inr rfl)) pgs_nil))) rfl (GSs.cons (GSs.cons GSs.nil)) (x_var (i := 1) rfl (by first | exact Or.inl rfl | exact Or.inr (Or.inl rfl) | exact Or.inr (Or.inr rfl)))) (xb_one (xs_if (PW.pt (x_or (x_not (x_truth (o_v (x_call I.i_is_between hr (by rfl) T.g_is_between T.k_is_between T.b_is_between pass0 (xa_cons (o_var (i := 2) rfl (by first | exact Or.inl rfl | exact Or.inr (Or.inl rfl) | exact Or.inr (Or.inr rfl))) (xa_cons (o_v (x_un un_neg s_neg (o_v (x_globI (by rfl) T.c_MOST_PART)))) (xa_cons (o_v (x_globI (by rfl) T.c_MOST_PART)) xa_nil))))) (fun _ => rfl))) (x_or (x_not (x_truth (o_v (x_call I.i_is_between hr (by rfl) T.g_is_between T.k_is_between T.b_is_between pass0 (xa_cons (o_var (i := 3) rfl (by first | exact Or.inl rfl | exact Or.inr (Or.inl rfl) | exact Or.inr (Or.inr rfl))) (xa_cons (o_v x_int) (xa_cons (o_v (x_globI (by rfl) T.c_MOST_PART)) xa_nil))))) (fun _ => rfl))) (pw_or1 (x_cmpT (op_eqD hr.units) s_eq (o_v (x_bin op_mod s_mod (o_var (i := 3) rfl (by first | exact Or.inl rfl | exact Or.inr (Or.inl rfl) | exact Or.inr (Or.inr rfl))) (o_var (i := 0) rfl (by first | exact Or.inl rfl | exact Or.inr (Or.inl rfl) | exact Or.inr (Or.inr rfl))))) (o_v x_int) (nomark _)))))) (xb_one xs_never) xb_nil))))
theorem ok_value_of (T : Tx P w base K mg fd) {n : Nat} (I : Ih P w K mg base fd n) : FnOk P w K mg base CX0 (n + 1) (He.ga K "value_of") (fd 8) P_value_of (spI K (run (n + 1) "value_of")) := by
  have nd := sc_value_of.nd
  rw [run_value_of]
  refine T.f_value_of.ok sc_value_of (fun vs H Q E h => spI_len rfl h) (fun cdv A outer s H vs Q E hr h => ⟨kS K (F_value_of (run n)).body, PSs.nox ?_, fn_read rfl (show (2 : Nat) ≤ 4 by decide) h⟩)
  exact (xb_cons (xs_set (i := 2) nd rfl (by first | exact Or.inl rfl | exact Or.inr rfl) x_int) (xb_cons (x_for PassesOwn.never rfl (xi_revS (by rfl) T.m_reversed (o_v (x_var (i := 1) rfl (by first | exact Or.inl rfl | exact Or.inr (Or.inl rfl) | exact Or.inr (Or.inr rfl))))) (pg_name (i := 3) nd rfl (by first | exact Or.inl rfl | exact Or.inr rfl)) gs_nm (xb_one (xs_set (i := 2) nd rfl (by first | exact Or.inl rfl | exact Or.inr rfl) (x_bin op_addA s_add (o_v (x_bin op_mulA s_mul (o_var (i := 2) rfl (by first | exact Or.inl rfl | exact Or.inr (Or.inl rfl) | exact Or.inr (Or.inr rfl))) (o_var (i := 0) rfl (by first | exact Or.inl rfl | exact Or.inr (Or.inl rfl) | exact Or.inr (Or.inr rfl))))) (o_var (i := 3) rfl (by first | exact Or.inl rfl | exact Or.inr (Or.inl rfl) | exact Or.inr (Or.inr rfl))))))) (xb_one (xs_ret (x_var (i := 2) rfl (by first | exact Or.inl rfl | exact Or.inr (Or.inl rfl) | exact Or.inr (Or.inr rfl)))))))
theorem ok_figures_of (T : Tx P w base K mg fd) {n : Nat} (I : Ih P w K mg base fd n) : FnOk P w K mg base CX0 (n + 1) (He.ga K "figures_of") (fd 9) P_figures_of (spI K (run (n + 1) "figures_of")) := by
  have nd := sc_figures_of.nd
  rw [run_figures_of]
  refine T.f_figures_of.ok sc_figures_of (fun vs H Q E h => spI_len rfl h) (fun cdv A outer s H vs Q E hr h => ⟨kS K (F_figures_of (run n)).body, PSs.nox ?_, fn_read rfl (show (4 : Nat) ≤ 6 by decide) h⟩)
  exact (xb_cons (xs_set (i := 4) nd rfl (by first | exact Or.inl rfl | exact Or.inr rfl) (x_lst xa_nil)) (xb_cons (x_for PassesOwn.never rfl (xi_range1 (by rfl) T.m_range (o_var (i := 3) rfl (by first | exact Or.inl rfl | exact Or.inr (Or.inl rfl) | exact Or.inr (Or.inr rfl)))) (pg_name (i := 5) nd rfl (by first | exact Or.inl rfl | exact Or.inr rfl)) gs_nm (xb_cons (xs_app (i := 4) (pe_var (i := 4) rfl (by first | exact Or.inl rfl | exact Or.inr (Or.inl rfl) | exact Or.inr (Or.inr rfl))) (x_call I.i__first_figure hr (by rfl) T.g__first_figure T.k__first_figure T.b__first_figure pass0 (xa_cons (o_var (i := 0) rfl (by first | exact Or.inl rfl | exact Or.inr (Or.inl rfl) | exact Or.inr (Or.inr rfl))) (xa_cons (o_var (i := 1) rfl (by first | exact Or.inl rfl | exact Or.inr (Or.inl rfl) | exact Or.inr (Or.inr rfl))) (xa_cons (o_var (i := 2) rfl (by first | exact Or.inl rfl | exact Or.inr (Or.inl rfl) | exact Or.inr (Or.inr rfl))) xa_nil))))) (xb_one (xs_set (i := 1) nd rfl (by first | exact Or.inl rfl | exact Or.inr rfl) (x_call I.i_rest_above hr (by rfl) T.g_rest_above T.k_rest_above T.b_rest_above pass0 (xa_cons (o_var (i := 0) rfl (by first | exact Or.inl rfl | exact Or.inr (Or.inl rfl) | exact Or.inr (Or.inr rfl))) (xa_cons (o_var (i := 1) rfl (by first | exact Or.inl rfl | exact Or.inr (Or.inl rfl) | exact Or.inr (Or.inr rfl))) (xa_cons (o_var (i := 2) rfl (by first | exact Or.inl rfl | exact Or.inr (Or.inl rfl) | exact Or.inr (Or.inr rfl))) xa_nil)))))))) (xb_one (xs_ret (x_biT call_tuple_of s_tupO (by rfl) T.m_tuple b_tuple (xa_cons (o_var (i := 4) rfl (by first | exact Or.inl rfl | exact Or.inr (Or.inl rfl) | exact Or.inr (Or.inr rfl))) xa_nil))))))
theorem ok_rest_above (T : Tx P w base K mg fd) {n : Nat} (I : Ih P w K mg base fd n) : FnOk P w K mg base CX0 (n + 1) (He.ga K "rest_above") (fd 10) P_rest_above (spI K (run (n + 1) "rest_above")) := by
  have nd := sc_rest_above.nd
  rw [run_rest_above]
  refine T.f_rest_above.ok sc_rest_above (fun vs H Q E h => spI_len rfl h) (fun cdv A outer s H vs Q E hr h => ⟨kS K (F_rest_above (run n)).body, PSs.nox ?_, fn_read rfl (show (3 : Nat) ≤ 3 by decide) h⟩)
  exact (xb_one (xs_ret (x_bin op_fdivA s_fdiv (o_v (x_bin op_sub s_sub (o_var (i := 1) rfl (by first | exact Or.inl rfl | exact Or.inr (Or.inl rfl) | exact Or.inr (Or.inr rfl))) (o_v (x_bin op_mulA s_mul (o_v (x_call I.i__first_figure hr (by rfl) T.g__first_figure T.k__first_figure T.b__first_figure pass0 (xa_cons (o_var (i := 0) rfl (by first | exact Or.inl rfl | exact Or.inr (Or.inl rfl) | exact Or.inr (Or.inr rfl))) (xa_cons (o_var (i := 1) rfl (by first | exact Or.inl rfl | exact Or.inr (Or.inl rfl) | exact Or.inr (Or.inr rfl))) (xa_cons (o_var (i := 2) rfl (by first | exact Or.inl rfl | exact Or.inr (Or.inl rfl) | exact Or.inr (Or.inr rfl))) xa_nil))))) (o_var (i := 2) rfl (by first | exact Or.inl rfl | exact Or.inr (Or.inl rfl) | exact Or.inr (Or.inr rfl))))))) (o_var (i := 0) rfl (by first | exact Or.inl rfl | exact Or.inr (Or.inl rfl) | exact Or.inr (Or.inr rfl))))))
theorem ok__first_figure (T : Tx P w base K mg fd) {n : Nat} (I : Ih P w K mg base fd n) : FnOk P w K mg base CX0 (n + 1) (He.ga K "_first_figure") (fd 11) P__first_figure (spI K (run (n + 1) "_first_figure")) := by
  have nd := sc__first_figure.nd
  rw [run__first_figure]
  refine T.f__first_figure.ok sc__first_figure (fun vs H Q E h => spI_len rfl h) (fun cdv A outer s H vs Q E hr h => ⟨kS K (F__first_figure (run n)).body, PSs.nox ?_, fn_read rfl (show (3 : Nat) ≤ 3 by decide) h⟩)
  exact (xb_one (xs_ret (x_bin op_mod s_mod (o_v (x_bin op_mulA s_mul (o_var (i := 1) rfl (by first | exact Or.inl rfl | exact Or.inr (Or.inl rfl) | exact Or.inr (Or.inr rfl))) (o_v (x_call I.i_inverse hr (by rfl) T.g_inverse T.k_inverse T.b_inverse pass0 (xa_cons (o_var (i := 0) rfl (by first | exact Or.inl rfl | exact Or.inr (Or.inl rfl) | exact Or.inr (Or.inr rfl))) (xa_cons (o_var (i := 2) rfl (by first | exact Or.inl rfl | exact Or.inr (Or.inl rfl) | exact Or.inr (Or.inr rfl))) xa_nil)))))) (o_var (i := 0) rfl (by first | exact Or.inl rfl | exact Or.inr (Or.inl rfl) | exact Or.inr (Or.inr rfl))))))
theorem ok_carry_span (T : Tx P w base K mg fd) {n : Nat} (I : Ih P w K mg base fd n) : FnOk P w K mg base CX0 (n + 1) (He.ga K "carry_span") (fd 12) P_carry_span (spI K (run (n + 1) "carry_span")) := by
  have nd := sc_carry_span.nd
  rw [run_carry_span]
  refine T.f_carry_span.ok sc_carry_span (fun vs H Q E h => spI_len rfl h) (fun cdv A outer s H vs Q E hr h => ⟨kS K (F_carry_span (run n)).body, PSs.nox ?_, fn_read rfl (show (2 : Nat) ≤ 4 by decide) h⟩)
  exact (xb_cons (xs_unp (pg_tup rfl (pgs_cons (pg_name (i := 2) nd rfl (by first | exact Or.inl rfl | exact Or.inr rfl)) (pgs_cons (pg_name (i := 3) nd rfl (by first | exact Or.inl rfl | exact Or.inr rfl)) pgs_nil))) rfl (GSs.cons (GSs.cons GSs.nil)) (x_call I.i__least_of hr (by rfl) T.g__least_of T.k__least_of T.b__least_of pass0 (xa_cons (o_var (i := 0) rfl (by first | exact Or.inl rfl | exact Or.inr (Or.inl rfl) | exact Or.inr (Or.inr rfl))) (xa_cons (o_var (i := 1) rfl (by first | exact Or.inl rfl | exact Or.inr (Or.inl rfl) | exact Or.inr (Or.inr rfl))) xa_nil)))) (xb_one (xs_ret (x_biB (call_max2 rfl) s_max2 (by rfl) T.m_max b_max (xa_cons (o_v (x_biB call_abs s_abs (by rfl) T.m_abs b_abs (xa_cons (o_var (i := 2) rfl (by first | exact Or.inl rfl | exact Or.inr (Or.inl rfl) | exact Or.inr (Or.inr rfl))) xa_nil))) (xa_cons (o_var (i := 3) rfl (by first | exact Or.inl rfl | exact Or.inr (Or.inl rfl) | exact Or.inr (Or.inr rfl))) xa_nil))))))
theorem ok_least_fraction (T : Tx P w base K mg fd) {n : Nat} (I : Ih P w K mg base fd n) : FnOk P w K mg base CX0 (n + 1) (He.ga K "least_fraction") (fd 13) P_least_fraction (spI K (run (n + 1) "least_fraction")) := by
  have nd := sc_least_fraction.nd
  rw [run_least_fraction]
  refine T.f_least_fraction.ok sc_least_fraction (fun vs H Q E h => spI_len rfl h) (fun cdv A outer s H vs Q E hr h => ⟨kS K (F_least_fraction (run n)).body, PSs.nox ?_, fn_read rfl (show (2 : Nat) ≤ 2 by decide) h⟩)
  exact (xb_one (xs_ret (x_call I.i__least_of hr (by rfl) T.g__least_of T.k__least_of T.b__least_of pass0 (xa_cons (o_var (i := 0) rfl (by first | exact Or.inl rfl | exact Or.inr (Or.inl rfl) | exact Or.inr (Or.inr rfl))) (xa_cons (o_var (i := 1) rfl (by first | exact Or.inl rfl | exact Or.inr (Or.inl rfl) | exact Or.inr (Or.inr rfl))) xa_nil)))))
theorem ok__least_of (T : Tx P w base K mg fd) {n : Nat} (I : Ih P w K mg base fd n) : FnOk P w K mg base CX0 (n + 1) (He.ga K "_least_of") (fd 14) P__least_of (spI K (run (n + 1) "_least_of")) := by
  have nd := sc__least_of.nd
  rw [run__least_of]
  refine T.f__least_of.ok sc__least_of (fun vs H Q E h => spI_len rfl h) (fun cdv A outer s H vs Q E hr h => ⟨kS K (F__least_of (run n)).body, PSs.nox ?_, fn_read rfl (show (2 : Nat) ≤ 5 by decide) h⟩)
  exact (xb_cons (xs_ex (x_call I.i_check_prime hr (by rfl) T.g_check_prime T.k_check_prime T.b_check_prime pass0 (xa_cons (o_var (i := 0) rfl (by first | exact Or.inl rfl | exact Or.inr (Or.inl rfl) | exact Or.inr (Or.inr rfl))) xa_nil))) (xb_cons (xs_ex (x_call I.i_check_row hr (by rfl) T.g_check_row T.k_check_row T.b_check_row pass0 (xa_cons (o_var (i := 0) rfl (by first | exact Or.inl rfl | exact Or.inr (Or.inl rfl) | exact Or.inr (Or.inr rfl))) (xa_cons (o_var (i := 1) rfl (by first | exact Or.inl rfl | exact Or.inr (Or.inl rfl) | exact Or.inr (Or.inr rfl))) xa_nil)))) (xb_cons (xs_set (i := 2) nd rfl (by first | exact Or.inl rfl | exact Or.inr rfl) (x_call I.i_power_of hr (by rfl) T.g_power_of T.k_power_of T.b_power_of pass0 (xa_cons (o_var (i := 0) rfl (by first | exact Or.inl rfl | exact Or.inr (Or.inl rfl) | exact Or.inr (Or.inr rfl))) (xa_cons (o_v (x_biB call_len_seq s_len (by rfl) T.m_len b_len (xa_cons (o_var (i := 1) rfl (by first | exact Or.inl rfl | exact Or.inr (Or.inl rfl) | exact Or.inr (Or.inr rfl))) xa_nil))) xa_nil)))) (xb_cons (xs_unp (pg_tup rfl (pgs_cons (pg_name (i := 3) nd rfl (by first | exact Or.inl rfl | exact Or.inr rfl)) (pgs_cons (pg_name (i := 4) nd rfl (by first | exact Or.inl rfl | exact Or.inr rfl)) pgs_nil))) rfl (GSs.cons (GSs.cons GSs.nil)) (x_call I.i__fitting hr (by rfl) T.g__fitting T.k__fitting T.b__fitting pass0 (xa_cons (o_var (i := 0) rfl (by first | exact Or.inl rfl | exact Or.inr (Or.inl rfl) | exact Or.inr (Or.inr rfl))) (xa_cons (o_v (x_call I.i__reduced hr (by rfl) T.g__reduced T.k__reduced T.b__reduced pass0 (xa_cons (o_v (x_tup (xa_cons (o_v (x_call I.i_value_of hr (by rfl) T.g_value_of T.k_value_of T.b_value_of pass0 (xa_cons (o_var (i := 0) rfl (by first | exact Or.inl rfl | exact Or.inr (Or.inl rfl) | exact Or.inr (Or.inr rfl))) (xa_cons (o_var (i := 1) rfl (by first | exact Or.inl rfl | exact Or.inr (Or.inl rfl) | exact Or.inr (Or.inr rfl))) xa_nil)))) (xa_cons (o_v x_int) xa_nil)))) (xa_cons (o_v (x_tup (xa_cons (o_var (i := 2) rfl (by first | exact Or.inl rfl | exact Or.inr (Or.inl rfl) | exact Or.inr (Or.inr rfl))) (xa_cons (o_v x_int) xa_nil)))) xa_nil)))) xa_nil)))) (xb_one (xs_ret (x_ite (x_cmpT op_gt s_gt (o_var (i := 4) rfl (by first | exact Or.inl rfl | exact Or.inr (Or.inl rfl) | exact Or.inr (Or.inr rfl))) (o_v x_int) (nomark _)) (x_tup (xa_cons (o_var (i := 3) rfl (by first | exact Or.inl rfl | exact Or.inr (Or.inl rfl) | exact Or.inr (Or.inr rfl))) (xa_cons (o_var (i := 4) rfl (by first | exact Or.inl rfl | exact Or.inr (Or.inl rfl) | exact Or.inr (Or.inr rfl))) xa_nil))) (x_tup (xa_cons (o_v (x_un un_neg s_neg (o_var (i := 3) rfl (by first | exact Or.inl rfl | exact Or.inr (Or.inl rfl) | exact Or.inr (Or.inr rfl))))) (xa_cons (o_v (x_un un_neg s_neg (o_var (i := 4) rfl (by first | exact Or.inl rfl | exact Or.inr (Or.inl rfl) | exact Or.inr (Or.inr rfl))))) xa_nil))))))))))
theorem ok__fitting (T : Tx P w base K mg fd) {n : Nat} (I : Ih P w K mg base fd n) : FnOk P w K mg base CX0 (n + 1) (He.ga K "_fitting") (fd 15) P__fitting (spI K (run (n + 1) "_fitting")) := by
  have nd := sc__fitting.nd
  rw [run__fitting]
  refine T.f__fitting.ok sc__fitting (fun vs H Q E h => spI_len rfl h) (fun cdv A outer s H vs Q E hr h => ⟨kS K (F__fitting (run n)).body, PSs.nox ?_, fn_read rfl (show (2 : Nat) ≤ 2 by decide) h⟩)
  exact (xb_one (xs_ret (x_ite (x_cmpT (op_neD hr.units) s_ne (o_v (x_bin op_mod s_mod (o_v (x_ix ix_any s_ix (o_v (x_ix ix_any s_ix (o_var (i := 1) rfl (by first | exact Or.inl rfl | exact Or.inr (Or.inl rfl) | exact Or.inr (Or.inr rfl))) (o_v x_int) (fun _ _ => rfl))) (o_v x_int) (fun _ _ => rfl))) (o_var (i := 0) rfl (by first | exact Or.inl rfl | exact Or.inr (Or.inl rfl) | exact Or.inr (Or.inr rfl))))) (o_v x_int) (nomark _)) (x_ix ix_any s_ix (o_var (i := 1) rfl (by first | exact Or.inl rfl | exact Or.inr (Or.inl rfl) | exact Or.inr (Or.inr rfl))) (o_v x_int) (fun _ _ => rfl)) (x_ix ix_any s_ix (o_var (i := 1) rfl (by first | exact Or.inl rfl | exact Or.inr (Or.inl rfl) | exact Or.inr (Or.inr rfl))) (o_v x_int) (fun _ _ => rfl)))))
theorem ok__reduced (T : Tx P w base K mg fd) {n : Nat} (I : Ih P w K mg base fd n) : FnOk P w K mg base CX0 (n + 1) (He.ga K "_reduced") (fd 16) P__reduced (spI K (run (n + 1) "_reduced")) := by
  have nd := sc__reduced.nd
  rw [run__reduced]
  refine T.f__reduced.ok sc__reduced (fun vs H Q E h => spI_len rfl h) (fun cdv A outer s H vs Q E hr h => ⟨kS K (F__reduced (run n)).body, PSs.nox ?_, fn_read rfl (show (2 : Nat) ≤ 3 by decide) h⟩)
  exact (xb_cons (xs_if (x_cmpT op_lt s_lt (o_v (x_call I.i__size hr (by rfl) T.g__size T.k__size T.b__size pass0 (xa_cons (o_var (i := 1) rfl (by first | exact Or.inl rfl | exact Or.inr (Or.inl rfl) | exact Or.inr (Or.inr rfl))) xa_nil))) (o_v (x_call I.i__size hr (by rfl) T.g__size T.k__size T.b__size pass0 (xa_cons (o_var (i := 0) rfl (by first | exact Or.inl rfl | exact Or.inr (Or.inl rfl) | exact Or.inr (Or.inr rfl))) xa_nil))) (nomark _)) (xb_one (xs_par (i := 0) (j := 1) rfl nd rfl rfl (by decide) rfl rfl (x_var (i := 1) rfl (by first | exact Or.inl rfl | exact Or.inr (Or.inl rfl) | exact Or.inr (Or.inr rfl))) (x_var (i := 0) rfl (by first | exact Or.inl rfl | exact Or.inr (Or.inl rfl) | exact Or.inr (Or.inr rfl))) (by rfl))) xb_nil) (xb_cons (xs_set (i := 2) nd rfl (by first | exact Or.inl rfl | exact Or.inr rfl) (x_call I.i__nearest hr (by rfl) T.g__nearest T.k__nearest T.b__nearest pass0 (xa_cons (o_var (i := 1) rfl (by first | exact Or.inl rfl | exact Or.inr (Or.inl rfl) | exact Or.inr (Or.inr rfl))) (xa_cons (o_var (i := 0) rfl (by first | exact Or.inl rfl | exact Or.inr (Or.inl rfl) | exact Or.inr (Or.inr rfl))) xa_nil)))) (xb_cons (x_while PassesOwn.never (x_cmpT op_lt s_lt (o_v (x_call I.i__size hr (by rfl) T.g__size T.k__size T.b__size pass0 (xa_cons (o_var (i := 2) rfl (by first | exact Or.inl rfl | exact Or.inr (Or.inl rfl) | exact Or.inr (Or.inr rfl))) xa_nil))) (o_v (x_call I.i__size hr (by rfl) T.g__size T.k__size T.b__size pass0 (xa_cons (o_var (i := 0) rfl (by first | exact Or.inl rfl | exact Or.inr (Or.inl rfl) | exact Or.inr (Or.inr rfl))) xa_nil))) (nomark _)) (xb_cons (xs_par (i := 0) (j := 1) rfl nd rfl rfl (by decide) rfl rfl (x_var (i := 2) rfl (by first | exact Or.inl rfl | exact Or.inr (Or.inl rfl) | exact Or.inr (Or.inr rfl))) (x_var (i := 0) rfl (by first | exact Or.inl rfl | exact Or.inr (Or.inl rfl) | exact Or.inr (Or.inr rfl))) (by rfl)) (xb_one (xs_set (i := 2) nd rfl (by first | exact Or.inl rfl | exact Or.inr rfl) (x_call I.i__nearest hr (by rfl) T.g__nearest T.k__nearest T.b__nearest pass0 (xa_cons (o_var (i := 1) rfl (by first | exact Or.inl rfl | exact Or.inr (Or.inl rfl) | exact Or.inr (Or.inr rfl))) (xa_cons (o_var (i := 0) rfl (by first | exact Or.inl rfl | exact Or.inr (Or.inl rfl) | exact Or.inr (Or.inr rfl))) xa_nil))))))) (xb_one (xs_ret (x_tup (xa_cons (o_var (i := 0) rfl (by first | exact Or.inl rfl | exact Or.inr (Or.inl rfl) | exact Or.inr (Or.inr rfl))) (xa_cons (o_var (i := 2) rfl (by first | exact Or.inl rfl | exact Or.inr (Or.inl rfl) | exact Or.inr (Or.inr rfl))) xa_nil))))))))
theorem ok__nearest (T : Tx P w base K mg fd) {n : Nat} (I : Ih P w K mg base fd n) : FnOk P w K mg base CX0 (n + 1) (He.ga K "_nearest") (fd 17) P__nearest (spI K (run (n + 1) "_nearest")) := by
  have nd := sc__nearest.nd
  rw [run__nearest]
  refine ok_in1 T.f__nearest sc__nearest (fun vs H Q E h => spI_len rfl h) (fun cdv A outer s H vs Q E hr1 h => ⟨kS K (F__nearest (run n)).body, PSs.nox ?_, fn_read rfl (show (2 : Nat) ≤ 8 by decide) h⟩)
  have hr := room_in1 hr1
  exact (xb_cons (xs_set (i := 2) nd rfl (by first | exact Or.inl rfl | exact Or.inr rfl) (x_lst (xa_cons (o_v (x_tup (xa_cons (o_v (x_bin op_sub s_sub (o_v (x_ix ix_any s_ix (o_var (i := 0) rfl (by first | exact Or.inl rfl | exact Or.inr (Or.inl rfl) | exact Or.inr (Or.inr rfl))) (o_v x_int) (fun _ _ => rfl))) (o_v (x_ix ix_any s_ix (o_var (i := 0) rfl (by first | exact Or.inl rfl | exact Or.inr (Or.inl rfl) | exact Or.inr (Or.inr rfl))) (o_v x_int) (fun _ _ => rfl))))) (xa_cons (o_v (x_bin op_sub s_sub (o_v (x_ix ix_any s_ix (o_var (i := 1) rfl (by first | exact Or.inl rfl | exact Or.inr (Or.inl rfl) | exact Or.inr (Or.inr rfl))) (o_v x_int) (fun _ _ => rfl))) (o_v (x_ix ix_any s_ix (o_var (i := 1) rfl (by first | exact Or.inl rfl | exact Or.inr (Or.inl rfl) | exact Or.inr (Or.inr rfl))) (o_v x_int) (fun _ _ => rfl))))) xa_nil)))) (xa_cons (o_v (x_tup (xa_cons (o_v (x_bin op_addA s_add (o_v (x_ix ix_any s_ix (o_var (i := 0) rfl (by first | exact Or.inl rfl | exact Or.inr (Or.inl rfl) | exact Or.inr (Or.inr rfl))) (o_v x_int) (fun _ _ => rfl))) (o_v (x_ix ix_any s_ix (o_var (i := 0) rfl (by first | exact Or.inl rfl | exact Or.inr (Or.inl rfl) | exact Or.inr (Or.inr rfl))) (o_v x_int) (fun _ _ => rfl))))) (xa_cons (o_v (x_bin op_addA s_add (o_v (x_ix ix_any s_ix (o_var (i := 1) rfl (by first | exact Or.inl rfl | exact Or.inr (Or.inl rfl) | exact Or.inr (Or.inr rfl))) (o_v x_int) (fun _ _ => rfl))) (o_v (x_ix ix_any s_ix (o_var (i := 1) rfl (by first | exact Or.inl rfl | exact Or.inr (Or.inl rfl) | exact Or.inr (Or.inr rfl))) (o_v x_int) (fun _ _ => rfl))))) xa_nil)))) xa_nil)))) (xb_cons (xs_setLc (i := 3) (own := [("above", 5), ("low", 6)]) rfl nd rfl rfl (sw_true rfl rfl rfl (by decide +kernel)) (xi_seq (o_var (i := 2) rfl (by first | exact Or.inl rfl | exact Or.inr (Or.inl rfl) | exact Or.inr (Or.inr rfl)))) (blkOk_by (own := [("above", 5), ("low", 6)]) (N := N__nearest) (sc := defScope (topS 30)) (by decide +kernel)) (gs_tup rfl (GSs.cons (GSs.cons GSs.nil))) (by simp [Tg.slots]) (fun _ _ _ _ _ => pg_tup rfl (pgs_cons (pg_name (i := 5) nd rfl (by first | exact Or.inl rfl | exact Or.inr rfl)) (pgs_cons (pg_name (i := 6) nd rfl (by first | exact Or.inl rfl | exact Or.inr rfl)) pgs_nil))) (fun _ _ _ _ _ => (xts_one (x_cmpT (op_neD hr.units) s_ne (o_var (i := 6) rfl (by first | exact Or.inl rfl | exact Or.inr (Or.inl rfl) | exact Or.inr (Or.inr rfl))) (o_v x_int) (nomark _)))) (fun _ _ _ _ _ => (x_bin op_fdivZ s_fdivZ (o_var (i := 5) rfl (by first | exact Or.inl rfl | exact Or.inr (Or.inl rfl) | exact Or.inr (Or.inr rfl))) (o_var (i := 6) rfl (by first | exact Or.inl rfl | exact Or.inr (Or.inl rfl) | exact Or.inr (Or.inr rfl)))))) (xb_cons (xs_set (i := 4) nd rfl (by first | exact Or.inl rfl | exact Or.inr rfl) (x_bin op_addA s_add (o_v (x_lc (own := [("many", 7)]) rfl nd (xi_seq (o_var (i := 3) rfl (by first | exact Or.inl rfl | exact Or.inr (Or.inl rfl) | exact Or.inr (Or.inr rfl)))) (blkOk_by (own := [("many", 7)]) (N := N__nearest) (sc := defScope (topS 30)) (by decide +kernel)) gs_nm (by simp [Tg.slots]) (fun _ _ _ _ _ => pg_name (i := 7) nd rfl (by first | exact Or.inl rfl | exact Or.inr rfl)) (fun _ _ _ _ _ => xts_nil) (fun _ _ _ _ _ => (x_call I.i__less hr (by rfl) T.g__less T.k__less T.b__less pass0 (xa_cons (o_var (i := 0) rfl (by first | exact Or.inl rfl | exact Or.inr (Or.inl rfl) | exact Or.inr (Or.inr rfl))) (xa_cons (o_var (i := 1) rfl (by first | exact Or.inl rfl | exact Or.inr (Or.inl rfl) | exact Or.inr (Or.inr rfl))) (xa_cons (o_var (i := 7) rfl (by first | exact Or.inl rfl | exact Or.inr (Or.inl rfl) | exact Or.inr (Or.inr rfl))) xa_nil))))))) (o_v (x_lc (own := [("many", 7)]) rfl nd (xi_seq (o_var (i := 3) rfl (by first | exact Or.inl rfl | exact Or.inr (Or.inl rfl) | exact Or.inr (Or.inr rfl)))) (blkOk_by (own := [("many", 7)]) (N := N__nearest) (sc := defScope (topS 30)) (by decide +kernel)) gs_nm (by simp [Tg.slots]) (fun _ _ _ _ _ => pg_name (i := 7) nd rfl (by first | exact Or.inl rfl | exact Or.inr rfl)) (fun _ _ _ _ _ => xts_nil) (fun _ _ _ _ _ => (x_call I.i__less hr (by rfl) T.g__less T.k__less T.b__less pass0 (xa_cons (o_var (i := 0) rfl (by first | exact Or.inl rfl | exact Or.inr (Or.inl rfl) | exact Or.inr (Or.inr rfl))) (xa_cons (o_var (i := 1) rfl (by first | exact Or.inl rfl | exact Or.inr (Or.inl rfl) | exact Or.inr (Or.inr rfl))) (xa_cons (o_v (x_bin op_addA s_add (o_var (i := 7) rfl (by first | exact Or.inl rfl | exact Or.inr (Or.inl rfl) | exact Or.inr (Or.inr rfl))) (o_v x_int))) xa_nil))))))))) (xb_one (xs_ret (x_minK I.i__size hr1 (by rfl) T.g__size T.b__size (by rfl) T.m_min b_min (o_var (i := 4) rfl (by first | exact Or.inl rfl | exact Or.inr (Or.inl rfl) | exact Or.inr (Or.inr rfl)))))))))
theorem ok__less (T : Tx P w base K mg fd) {n : Nat} (I : Ih P w K mg base fd n) : FnOk P w K mg base CX0 (n + 1) (He.ga K "_less") (fd 18) P__less (spI K (run (n + 1) "_less")) := by
  have nd := sc__less.nd
  rw [run__less]
  refine T.f__less.ok sc__less (fun vs H Q E h => spI_len rfl h) (fun cdv A outer s H vs Q E hr h => ⟨kS K (F__less (run n)).body, PSs.nox ?_, fn_read rfl (show (3 : Nat) ≤ 3 by decide) h⟩)
  exact (xb_one (xs_ret (x_tup (xa_cons (o_v (x_bin op_sub s_sub (o_v (x_ix ix_any s_ix (o_var (i := 0) rfl (by first | exact Or.inl rfl | exact Or.inr (Or.inl rfl) | exact Or.inr (Or.inr rfl))) (o_v x_int) (fun _ _ => rfl))) (o_v (x_bin op_mulA s_mul (o_var (i := 2) rfl (by first | exact Or.inl rfl | exact Or.inr (Or.inl rfl) | exact Or.inr (Or.inr rfl))) (o_v (x_ix ix_any s_ix (o_var (i := 1) rfl (by first | exact Or.inl rfl | exact Or.inr (Or.inl rfl) | exact Or.inr (Or.inr rfl))) (o_v x_int) (fun _ _ => rfl))))))) (xa_cons (o_v (x_bin op_sub s_sub (o_v (x_ix ix_any s_ix (o_var (i := 0) rfl (by first | exact Or.inl rfl | exact Or.inr (Or.inl rfl) | exact Or.inr (Or.inr rfl))) (o_v x_int) (fun _ _ => rfl))) (o_v (x_bin op_mulA s_mul (o_var (i := 2) rfl (by first | exact Or.inl rfl | exact Or.inr (Or.inl rfl) | exact Or.inr (Or.inr rfl))) (o_v (x_ix ix_any s_ix (o_var (i := 1) rfl (by first | exact Or.inl rfl | exact Or.inr (Or.inl rfl) | exact Or.inr (Or.inr rfl))) (o_v x_int) (fun _ _ => rfl))))))) xa_nil)))))
theorem ok__size (T : Tx P w base K mg fd) {n : Nat} (I : Ih P w K mg base fd n) : FnOk P w K mg base CX0 (n + 1) (He.ga K "_size") (fd 19) P__size (spI K (run (n + 1) "_size")) := by
  have nd := sc__size.nd
  rw [run__size]
  refine T.f__size.ok sc__size (fun vs H Q E h => spI_len rfl h) (fun cdv A outer s H vs Q E hr h => ⟨kS K (F__size (run n)).body, PSs.nox ?_, fn_read rfl (show (1 : Nat) ≤ 1 by decide) h⟩)
  exact (xb_one (xs_ret (x_biB (call_max2 rfl) s_max2 (by rfl) T.m_max b_max (xa_cons (o_v (x_biB call_abs s_abs (by rfl) T.m_abs b_abs (xa_cons (o_v (x_ix ix_any s_ix (o_var (i := 0) rfl (by first | exact Or.inl rfl | exact Or.inr (Or.inl rfl) | exact Or.inr (Or.inr rfl))) (o_v x_int) (fun _ _ => rfl))) xa_nil))) (xa_cons (o_v (x_biB call_abs s_abs (by rfl) T.m_abs b_abs (xa_cons (o_v (x_ix ix_any s_ix (o_var (i := 0) rfl (by first | exact Or.inl rfl | exact Or.inr (Or.inl rfl) | exact Or.inr (Or.inr rfl))) (o_v x_int) (fun _ _ => rfl))) xa_nil))) xa_nil)))))
theorem ok_fraction_row (T : Tx P w base K mg fd) {n : Nat} (I : Ih P w K mg base fd n) : FnOk P w K mg base CX0 (n + 1) (He.ga K "fraction_row") (fd 20) P_fraction_row (spI K (run (n + 1) "fraction_row")) := by
  have nd := sc_fraction_row.nd
  rw [run_fraction_row]
  refine T.f_fraction_row.ok sc_fraction_row (fun vs H Q E h => spI_len rfl h) (fun cdv A outer s H vs Q E hr h => ⟨kS K (F_fraction_row (run n)).body, PSs.nox ?_, fn_read rfl (show (3 : Nat) ≤ 5 by decide) h⟩)
  exact (xb_cons (xs_ex (x_call I.i_check_prime hr (by rfl) T.g_check_prime T.k_check_prime T.b_check_prime pass0 (xa_cons (o_var (i := 0) rfl (by first | exact Or.inl rfl | exact Or.inr (Or.inl rfl) | exact Or.inr (Or.inr rfl))) xa_nil))) (xb_cons (xs_ex (x_call I.i_check_fraction hr (by rfl) T.g_check_fraction T.k_check_fraction T.b_check_fraction pass0 (xa_cons (o_var (i := 0) rfl (by first | exact Or.inl rfl | exact Or.inr (Or.inl rfl) | exact Or.inr (Or.inr rfl))) (xa_cons (o_var (i := 1) rfl (by first | exact Or.inl rfl | exact Or.inr (Or.inl rfl) | exact Or.inr (Or.inr rfl))) xa_nil)))) (xb_cons (xs_ex (x_call I.i_check_number hr (by rfl) T.g_check_number T.k_check_number T.b_check_number pass0 (xa_cons (o_var (i := 2) rfl (by first | exact Or.inl rfl | exact Or.inr (Or.inl rfl) | exact Or.inr (Or.inr rfl))) (xa_cons (o_v x_int) (xa_cons (o_v (x_globI (by rfl) T.c_MOST_NUMBERS)) xa_nil))))) (xb_cons (xs_unp (pg_tup rfl (pgs_cons (pg_name (i := 3) nd rfl (by first | exact Or.inl rfl | exact Or.inr rfl)) (pgs_cons (pg_name (i := 4) nd rfl (by first | exact Or.inl rfl | exact Or.inr rfl)) pgs_nil))) rfl (GSs.cons (GSs.cons GSs.nil)) (x_var (i := 1) rfl (by first | exact Or.inl rfl | exact Or.inr (Or.inl rfl) | exact Or.inr (Or.inr rfl)))) (xb_one (xs_ret (x_call I.i_figures_of hr (by rfl) T.g_figures_of T.k_figures_of T.b_figures_of pass0 (xa_cons (o_var (i := 0) rfl (by first | exact Or.inl rfl | exact Or.inr (Or.inl rfl) | exact Or.inr (Or.inr rfl))) (xa_cons (o_var (i := 3) rfl (by first | exact Or.inl rfl | exact Or.inr (Or.inl rfl) | exact Or.inr (Or.inr rfl))) (xa_cons (o_var (i := 4) rfl (by first | exact Or.inl rfl | exact Or.inr (Or.inl rfl) | exact Or.inr (Or.inr rfl))) (xa_cons (o_var (i := 2) rfl (by first | exact Or.inl rfl | exact Or.inr (Or.inl rfl) | exact Or.inr (Or.inr rfl))) xa_nil)))))))))))
theorem ok__law_taken (T : Tx P w base K mg fd) {n : Nat} (I : Ih P w K mg base fd n) : FnOk P w K mg base CX0 (n + 1) (He.ga K "_law_taken") (fd 21) P__law_taken (spI K (run (n + 1) "_law_taken")) := by
  have nd := sc__law_taken.nd
  rw [run__law_taken]
  refine T.f__law_taken.ok sc__law_taken (fun vs H Q E h => spI_len rfl h) (fun cdv A outer s H vs Q E hr h => ⟨kS K (F__law_taken (run n)).body, PSs.nox ?_, fn_read rfl (show (2 : Nat) ≤ 4 by decide) h⟩)
  exact (xb_cons (xs_if (x_cmpT op_gt s_gt (o_v (x_ix ix_any s_ix (o_var (i := 0) rfl (by first | exact Or.inl rfl | exact Or.inr (Or.inl rfl) | exact Or.inr (Or.inr rfl))) (o_v x_int) (fun _ _ => rfl))) (o_v x_int) (nomark _)) (xb_cons (xs_set (i := 2) nd rfl (by first | exact Or.inl rfl | exact Or.inr rfl) (x_bin op_mod s_mod (o_v (x_biT call_int1 s_int1 (by rfl) T.m_int b_int (xa_cons (o_v (x_ix ix_any s_ix (o_var (i := 0) rfl (by first | exact Or.inl rfl | exact Or.inr (Or.inl rfl) | exact Or.inr (Or.inr rfl))) (o_v x_int) (fun _ _ => rfl))) xa_nil))) (o_var (i := 1) rfl (by first | exact Or.inl rfl | exact Or.inr (Or.inl rfl) | exact Or.inr (Or.inr rfl))))) (xb_cons (xs_setIx (i := 0) (pe_var (i := 0) rfl (by first | exact Or.inl rfl | exact Or.inr (Or.inl rfl) | exact Or.inr (Or.inr rfl))) (o_v x_int) (o_v (x_bin op_fdivA s_fdiv (o_v (x_ix ix_any s_ix (o_var (i := 0) rfl (by first | exact Or.inl rfl | exact Or.inr (Or.inl rfl) | exact Or.inr (Or.inr rfl))) (o_v x_int) (fun _ _ => rfl))) (o_var (i := 1) rfl (by first | exact Or.inl rfl | exact Or.inr (Or.inl rfl) | exact Or.inr (Or.inr rfl)))))) (xb_one (xs_ret (x_var (i := 2) rfl (by first | exact Or.inl rfl | exact Or.inr (Or.inl rfl) | exact Or.inr (Or.inr rfl))))))) xb_nil) (xb_cons (xs_setIx (i := 0) (pe_var (i := 0) rfl (by first | exact Or.inl rfl | exact Or.inr (Or.inl rfl) | exact Or.inr (Or.inr rfl))) (o_v x_int) (o_v (x_bin op_addA s_add (o_v (x_ix ix_any s_ix (o_var (i := 0) rfl (by first | exact Or.inl rfl | exact Or.inr (Or.inl rfl) | exact Or.inr (Or.inr rfl))) (o_v x_int) (fun _ _ => rfl))) (o_v x_int)))) (xb_cons (xs_if (x_cmpT op_gt s_gt (o_v (x_ix ix_any s_ix (o_var (i := 0) rfl (by first | exact Or.inl rfl | exact Or.inr (Or.inl rfl) | exact Or.inr (Or.inr rfl))) (o_v x_int) (fun _ _ => rfl))) (o_v (x_biB call_len_seq s_len (by rfl) T.m_len b_len (xa_cons (o_v (x_ix ix_any s_ix (o_var (i := 0) rfl (by first | exact Or.inl rfl | exact Or.inr (Or.inl rfl) | exact Or.inr (Or.inr rfl))) (o_v x_int) (fun _ _ => rfl))) xa_nil))) (nomark _)) (xb_cons (xs_setIx (i := 0) (pe_var (i := 0) rfl (by first | exact Or.inl rfl | exact Or.inr (Or.inl rfl) | exact Or.inr (Or.inr rfl))) (o_v x_int) (o_v (x_bin op_mod s_mod (o_v (x_biT call_int1 s_int1 (by rfl) T.m_int b_int (xa_cons (o_v (x_bin op_addA s_add (o_v (x_bin op_mulA s_mul (o_v (x_ix ix_any s_ix (o_var (i := 0) rfl (by first | exact Or.inl rfl | exact Or.inr (Or.inl rfl) | exact Or.inr (Or.inr rfl))) (o_v x_int) (fun _ _ => rfl))) (o_v x_int))) (o_v x_int))) xa_nil))) (o_v x_int)))) (xb_one (xs_ret (x_bin op_mod s_mod (o_v (x_biT call_int1 s_int1 (by rfl) T.m_int b_int (xa_cons (o_v (x_bin op_fdivA s_fdiv (o_v (x_ix ix_any s_ix (o_var (i := 0) rfl (by first | exact Or.inl rfl | exact Or.inr (Or.inl rfl) | exact Or.inr (Or.inr rfl))) (o_v x_int) (fun _ _ => rfl))) (o_v x_int))) xa_nil))) (o_var (i := 1) rfl (by first | exact Or.inl rfl | exact Or.inr (Or.inl rfl) | exact Or.inr (Or.inr rfl))))))) xb_nil) (xb_cons (xs_set (i := 3) nd rfl (by first | exact Or.inl rfl | exact Or.inr rfl) (x_ix ix_any s_ix (o_v (x_ix ix_any s_ix (o_var (i := 0) rfl (by first | exact Or.inl rfl | exact Or.inr (Or.inl rfl) | exact Or.inr (Or.inr rfl))) (o_v x_int) (fun _ _ => rfl))) (o_v (x_bin op_sub s_sub (o_v (x_ix ix_any s_ix (o_var (i := 0) rfl (by first | exact Or.inl rfl | exact Or.inr (Or.inl rfl) | exact Or.inr (Or.inr rfl))) (o_v x_int) (fun _ _ => rfl))) (o_v x_int))) (fun _ _ => rfl))) (xb_cons (xs_setIx (i := 0) (pe_var (i := 0) rfl (by first | exact Or.inl rfl | exact Or.inr (Or.inl rfl) | exact Or.inr (Or.inr rfl))) (o_v x_int) (o_v (x_bin op_mod s_mod (o_v (x_biT call_int1 s_int1 (by rfl) T.m_int b_int (xa_cons (o_v (x_bin op_addA s_add (o_v (x_bin op_addA s_add (o_v (x_bin op_mulA s_mul (o_v (x_ix ix_any s_ix (o_var (i := 0) rfl (by first | exact Or.inl rfl | exact Or.inr (Or.inl rfl) | exact Or.inr (Or.inr rfl))) (o_v x_int) (fun _ _ => rfl))) (o_v x_int))) (o_var (i := 3) rfl (by first | exact Or.inl rfl | exact Or.inr (Or.inl rfl) | exact Or.inr (Or.inr rfl))))) (o_v x_int))) xa_nil))) (o_v x_int)))) (xb_cons (xs_if (x_cmpT op_ge s_ge (o_var (i := 3) rfl (by first | exact Or.inl rfl | exact Or.inr (Or.inl rfl) | exact Or.inr (Or.inr rfl))) (o_v (x_bin op_pow s_pow (o_v x_int) (o_v x_int))) (nomark _)) (xb_one (xs_setIx (i := 0) (pe_var (i := 0) rfl (by first | exact Or.inl rfl | exact Or.inr (Or.inl rfl) | exact Or.inr (Or.inr rfl))) (o_v x_int) (o_v (x_bin op_fdivA s_fdiv (o_var (i := 3) rfl (by first | exact Or.inl rfl | exact Or.inr (Or.inl rfl) | exact Or.inr (Or.inr rfl))) (o_var (i := 1) rfl (by first | exact Or.inl rfl | exact Or.inr (Or.inl rfl) | exact Or.inr (Or.inr rfl))))))) xb_nil) (xb_one (xs_ret (x_bin op_mod s_mod (o_v (x_biT call_int1 s_int1 (by rfl) T.m_int b_int (xa_cons (o_var (i := 3) rfl (by first | exact Or.inl rfl | exact Or.inr (Or.inl rfl) | exact Or.inr (Or.inr rfl))) xa_nil))) (o_var (i := 1) rfl (by first | exact Or.inl rfl | exact Or.inr (Or.inl rfl) | exact Or.inr (Or.inr rfl))))))))))))
theorem ok__law_pick (T : Tx P w base K mg fd) {n : Nat} (I : Ih P w K mg base fd n) : FnOk P w K mg base CX0 (n + 1) (He.ga K "_law_pick") (fd 22) P__law_pick (spI K (run (n + 1) "_law_pick")) := by
  have nd := sc__law_pick.nd
  rw [run__law_pick]
  refine T.f__law_pick.ok sc__law_pick (fun vs H Q E h => spI_len rfl h) (fun cdv A outer s H vs Q E hr h => ⟨kS K (F__law_pick (run n)).body, PSs.nox ?_, fn_read rfl (show (2 : Nat) ≤ 2 by decide) h⟩)
  exact (xb_one (xs_ret (x_ix ix_any s_ix (o_var (i := 1) rfl (by first | exact Or.inl rfl | exact Or.inr (Or.inl rfl) | exact Or.inr (Or.inr rfl))) (o_v (x_callR (i := 0) I.i__law_taken hr (by rfl) T.g__law_taken T.k__law_taken T.b__law_taken pass0 (pe_var (i := 0) rfl (by first | exact Or.inl rfl | exact Or.inr (Or.inl rfl) | exact Or.inr (Or.inr rfl))) (xa_cons (o_v (x_biB call_len_seq s_len (by rfl) T.m_len b_len (xa_cons (o_var (i := 1) rfl (by first | exact Or.inl rfl | exact Or.inr (Or.inl rfl) | exact Or.inr (Or.inr rfl))) xa_nil))) xa_nil))) (fun _ _ => rfl))))
theorem ok__law_prime (T : Tx P w base K mg fd) {n : Nat} (I : Ih P w K mg base fd n) : FnOk P w K mg base CX0 (n + 1) (He.ga K "_law_prime") (fd 23) P__law_prime (spI K (run (n + 1) "_law_prime")) := by
  have nd := sc__law_prime.nd
  rw [run__law_prime]
  refine T.f__law_prime.ok sc__law_prime (fun vs H Q E h => spI_len rfl h) (fun cdv A outer s H vs Q E hr h => ⟨kS K (F__law_prime (run n)).body, PSs.nox ?_, fn_read rfl (show (1 : Nat) ≤ 1 by decide) h⟩)
  exact (xb_one (xs_ret (x_callR (i := 0) I.i__law_pick hr (by rfl) T.g__law_pick T.k__law_pick T.b__law_pick pass0 (pe_var (i := 0) rfl (by first | exact Or.inl rfl | exact Or.inr (Or.inl rfl) | exact Or.inr (Or.inr rfl))) (xa_cons (o_v (x_lst (xa_cons (o_v x_int) (xa_cons (o_v x_int) (xa_cons (o_v x_int) (xa_cons (o_v x_int) (xa_cons (o_v x_int) xa_nil))))))) xa_nil))))
theorem ok__law_low (T : Tx P w base K mg fd) {n : Nat} (I : Ih P w K mg base fd n) : FnOk P w K mg base CX0 (n + 1) (He.ga K "_law_low") (fd 24) P__law_low (spI K (run (n + 1) "_law_low")) := by
  have nd := sc__law_low.nd
  rw [run__law_low]
  refine T.f__law_low.ok sc__law_low (fun vs H Q E h => spI_len rfl h) (fun cdv A outer s H vs Q E hr h => ⟨kS K (F__law_low (run n)).body, PSs.nox ?_, fn_read rfl (show (3 : Nat) ≤ 4 by decide) h⟩)
  exact (xb_cons (xs_set (i := 3) nd rfl (by first | exact Or.inl rfl | exact Or.inr rfl) (x_bin op_addA s_add (o_v x_int) (o_v (x_callR (i := 0) I.i__law_taken hr (by rfl) T.g__law_taken T.k__law_taken T.b__law_taken pass0 (pe_var (i := 0) rfl (by first | exact Or.inl rfl | exact Or.inr (Or.inl rfl) | exact Or.inr (Or.inr rfl))) (xa_cons (o_var (i := 2) rfl (by first | exact Or.inl rfl | exact Or.inr (Or.inl rfl) | exact Or.inr (Or.inr rfl))) xa_nil))))) (xb_one (xs_ret (x_bin op_addA s_add (o_var (i := 3) rfl (by first | exact Or.inl rfl | exact Or.inr (Or.inl rfl) | exact Or.inr (Or.inr rfl))) (o_v (x_biT call_int1 s_int1 (by rfl) T.m_int b_int (xa_cons (o_v (x_cmp (op_eqD hr.units) s_eq (o_v (x_bin op_mod s_mod (o_v (x_biT call_int1 s_int1 (by rfl) T.m_int b_int (xa_cons (o_var (i := 3) rfl (by first | exact Or.inl rfl | exact Or.inr (Or.inl rfl) | exact Or.inr (Or.inr rfl))) xa_nil))) (o_var (i := 1) rfl (by first | exact Or.inl rfl | exact Or.inr (Or.inl rfl) | exact Or.inr (Or.inr rfl))))) (o_v x_int) (nomark _))) xa_nil)))))))
theorem ok__law_shared (T : Tx P w base K mg fd) {n : Nat} (I : Ih P w K mg base fd n) : FnOk P w K mg base CX0 (n + 1) (He.ga K "_law_shared") (fd 25) P__law_shared (spI K (run (n + 1) "_law_shared")) := by
  have nd := sc__law_shared.nd
  rw [run__law_shared]
  refine T.f__law_shared.ok sc__law_shared (fun vs H Q E h => spI_len rfl h) (fun cdv A outer s H vs Q E hr h => ⟨kS K (F__law_shared (run n)).body, PSs.nox ?_, fn_read rfl (show (2 : Nat) ≤ 3 by decide) h⟩)
  exact (xb_cons (xs_par (i := 0) (j := 1) rfl nd rfl rfl (by decide) rfl rfl (x_biB call_abs s_abs (by rfl) T.m_abs b_abs (xa_cons (o_var (i := 0) rfl (by first | exact Or.inl rfl | exact Or.inr (Or.inl rfl) | exact Or.inr (Or.inr rfl))) xa_nil)) (x_biB call_abs s_abs (by rfl) T.m_abs b_abs (xa_cons (o_var (i := 1) rfl (by first | exact Or.inl rfl | exact Or.inr (Or.inl rfl) | exact Or.inr (Or.inr rfl))) xa_nil)) (by rfl)) (xb_cons (x_for PassesOwn.never rfl (xi_range1 (by rfl) T.m_range (o_v x_int)) (pg_name (i := 2) nd rfl (by first | exact Or.inl rfl | exact Or.inr rfl)) gs_nm (xb_cons (xs_if (x_cmpT (op_eqD hr.units) s_eq (o_var (i := 1) rfl (by first | exact Or.inl rfl | exact Or.inr (Or.inl rfl) | exact Or.inr (Or.inr rfl))) (o_v x_int) (nomark _)) (xb_one (xs_ret (x_var (i := 0) rfl (by first | exact Or.inl rfl | exact Or.inr (Or.inl rfl) | exact Or.inr (Or.inr rfl))))) xb_nil) (xb_one (xs_par (i := 0) (j := 1) rfl nd rfl rfl (by decide) rfl rfl (x_var (i := 1) rfl (by first | exact Or.inl rfl | exact Or.inr (Or.inl rfl) | exact Or.inr (Or.inr rfl))) (x_bin op_mod s_mod (o_v (x_biT call_int1 s_int1 (by rfl) T.m_int b_int (xa_cons (o_var (i := 0) rfl (by first | exact Or.inl rfl | exact Or.inr (Or.inl rfl) | exact Or.inr (Or.inr rfl))) xa_nil))) (o_var (i := 1) rfl (by first | exact Or.inl rfl | exact Or.inr (Or.inl rfl) | exact Or.inr (Or.inr rfl)))) (by rfl))))) (xb_one (xs_ret (x_var (i := 0) rfl (by first | exact Or.inl rfl | exact Or.inr (Or.inl rfl) | exact Or.inr (Or.inr rfl)))))))
theorem ok__law_lowest_of (T : Tx P w base K mg fd) {n : Nat} (I : Ih P w K mg base fd n) : FnOk P w K mg base CX0 (n + 1) (He.ga K "_law_lowest_of") (fd 26) P__law_lowest_of (spI K (run (n + 1) "_law_lowest_of")) := by
  have nd := sc__law_lowest_of.nd
  rw [run__law_lowest_of]
  refine T.f__law_lowest_of.ok sc__law_lowest_of (fun vs H Q E h => spI_len rfl h) (fun cdv A outer s H vs Q E hr h => ⟨kS K (F__law_lowest_of (run n)).body, PSs.nox ?_, fn_read rfl (show (2 : Nat) ≤ 3 by decide) h⟩)
  exact (xb_cons (xs_set (i := 2) nd rfl (by first | exact Or.inl rfl | exact Or.inr rfl) (x_ite (x_cmpT op_gt s_gt (o_var (i := 1) rfl (by first | exact Or.inl rfl | exact Or.inr (Or.inl rfl) | exact Or.inr (Or.inr rfl))) (o_v x_int) (nomark _)) (x_call I.i__law_shared hr (by rfl) T.g__law_shared T.k__law_shared T.b__law_shared pass0 (xa_cons (o_var (i := 0) rfl (by first | exact Or.inl rfl | exact Or.inr (Or.inl rfl) | exact Or.inr (Or.inr rfl))) (xa_cons (o_var (i := 1) rfl (by first | exact Or.inl rfl | exact Or.inr (Or.inl rfl) | exact Or.inr (Or.inr rfl))) xa_nil))) (x_bin op_sub s_sub (o_v x_int) (o_v (x_call I.i__law_shared hr (by rfl) T.g__law_shared T.k__law_shared T.b__law_shared pass0 (xa_cons (o_var (i := 0) rfl (by first | exact Or.inl rfl | exact Or.inr (Or.inl rfl) | exact Or.inr (Or.inr rfl))) (xa_cons (o_var (i := 1) rfl (by first | exact Or.inl rfl | exact Or.inr (Or.inl rfl) | exact Or.inr (Or.inr rfl))) xa_nil))))))) (xb_one (xs_ret (x_tup (xa_cons (o_v (x_bin op_fdivA s_fdiv (o_var (i := 0) rfl (by first | exact Or.inl rfl | exact Or.inr (Or.inl rfl) | exact Or.inr (Or.inr rfl))) (o_var (i := 2) rfl (by first | exact Or.inl rfl | exact Or.inr (Or.inl rfl) | exact Or.inr (Or.inr rfl))))) (xa_cons (o_v (x_bin op_fdivA s_fdiv (o_var (i := 1) rfl (by first | exact Or.inl rfl | exact Or.inr (Or.inl rfl) | exact Or.inr (Or.inr rfl))) (o_var (i := 2) rfl (by first | exact Or.inl rfl | exact Or.inr (Or.inl rfl) | exact Or.inr (Or.inr rfl))))) xa_nil))))))
theorem ok__law_alike (T : Tx P w base K mg fd) {n : Nat} (I : Ih P w K mg base fd n) : FnOk P w K mg base CX0 (n + 1) (He.ga K "_law_alike") (fd 27) P__law_alike (spI K (run (n + 1) "_law_alike")) := by
  have nd := sc__law_alike.nd
  rw [run__law_alike]
  refine T.f__law_alike.ok sc__law_alike (fun vs H Q E h => spI_len rfl h) (fun cdv A outer s H vs Q E hr h => ⟨kS K (F__law_alike (run n)).body, PSs.nox ?_, fn_read rfl (show (2 : Nat) ≤ 3 by decide) h⟩)
  exact (xb_cons (xs_if (x_truth (o_v (x_isiT (by simp) (by decide) (o_var (i := 1) rfl (by first | exact Or.inl rfl | exact Or.inr (Or.inl rfl) | exact Or.inr (Or.inr rfl))) (by rfl) T.m_isinstance b_isinstance (xty_cons (t := .tuple) (by rfl) T.m_tuple b_tuple (xty_cons (t := .list) (by rfl) T.m_list b_list xty_nil)))) (fun _ => rfl)) (xb_cons (xs_if (PW.pt (x_or (x_not (x_truth (o_v (x_isiT (by simp) (by decide) (o_var (i := 0) rfl (by first | exact Or.inl rfl | exact Or.inr (Or.inl rfl) | exact Or.inr (Or.inr rfl))) (by rfl) T.m_isinstance b_isinstance (xty_cons (t := .tuple) (by rfl) T.m_tuple b_tuple (xty_cons (t := .list) (by rfl) T.m_list b_list xty_nil)))) (fun _ => rfl))) (pw_or1 (x_cmpT (op_neD hr.units) s_ne (o_v (x_isi1 (t := .list) (o_var (i := 0) rfl (by first | exact Or.inl rfl | exact Or.inr (Or.inl rfl) | exact Or.inr (Or.inr rfl))) (by rfl) T.m_isinstance b_isinstance (by rfl) T.m_list b_list)) (o_v (x_isi1 (t := .list) (o_var (i := 1) rfl (by first | exact Or.inl rfl | exact Or.inr (Or.inl rfl) | exact Or.inr (Or.inr rfl))) (by rfl) T.m_isinstance b_isinstance (by rfl) T.m_list b_list)) (nomark _))))) (xb_one (xs_ret x_bl)) xb_nil) (xb_cons (xs_if (x_cmpT (op_neD hr.units) s_ne (o_v (x_biB call_len_seq s_len (by rfl) T.m_len b_len (xa_cons (o_var (i := 0) rfl (by first | exact Or.inl rfl | exact Or.inr (Or.inl rfl) | exact Or.inr (Or.inr rfl))) xa_nil))) (o_v (x_biB call_len_seq s_len (by rfl) T.m_len b_len (xa_cons (o_var (i := 1) rfl (by first | exact Or.inl rfl | exact Or.inr (Or.inl rfl) | exact Or.inr (Or.inr rfl))) xa_nil))) (nomark _)) (xb_one (xs_ret x_bl)) xb_nil) (xb_one (xs_ret (x_cmp (op_eqD hr.units) s_eq (o_v (x_lc (own := [("k", 2)]) rfl nd (xi_range1 (by rfl) T.m_range (o_v (x_biB call_len_seq s_len (by rfl) T.m_len b_len (xa_cons (o_var (i := 1) rfl (by first | exact Or.inl rfl | exact Or.inr (Or.inl rfl) | exact Or.inr (Or.inr rfl))) xa_nil)))) (blkOk_by (own := [("k", 2)]) (N := N__law_alike) (sc := defScope (topS 42)) (by decide +kernel)) gs_nm (by simp [Tg.slots]) (fun _ _ _ _ _ => pg_name (i := 2) nd rfl (by first | exact Or.inl rfl | exact Or.inr rfl)) (fun _ _ _ _ _ => (xts_one (x_not (x_truth (o_v (x_call I.i__law_alike hr (by rfl) T.g__law_alike T.k__law_alike T.b__law_alike pass0 (xa_cons (o_v (x_ix ix_any s_ix (o_var (i := 0) rfl (by first | exact Or.inl rfl | exact Or.inr (Or.inl rfl) | exact Or.inr (Or.inr rfl))) (o_var (i := 2) rfl (by first | exact Or.inl rfl | exact Or.inr (Or.inl rfl) | exact Or.inr (Or.inr rfl))) (fun _ _ => rfl))) (xa_cons (o_v (x_ix ix_any s_ix (o_var (i := 1) rfl (by first | exact Or.inl rfl | exact Or.inr (Or.inl rfl) | exact Or.inr (Or.inr rfl))) (o_var (i := 2) rfl (by first | exact Or.inl rfl | exact Or.inr (Or.inl rfl) | exact Or.inr (Or.inr rfl))) (fun _ _ => rfl))) xa_nil)))) (fun _ => rfl))))) (fun _ _ _ _ _ => (x_var (i := 2) rfl (by first | exact Or.inl rfl | exact Or.inr (Or.inl rfl) | exact Or.inr (Or.inr rfl)))))) (o_v (x_lst xa_nil)) (nomark _)))))) xb_nil) (xb_cons (xs_if (PW.pt (x_or (x_isNT (o_var (i := 1) rfl (by first | exact Or.inl rfl | exact Or.inr (Or.inl rfl) | exact Or.inr (Or.inr rfl)))) (pw_or1 (x_truth (o_v (x_isi1 (t := .str) (o_var (i := 1) rfl (by first | exact Or.inl rfl | exact Or.inr (Or.inl rfl) | exact Or.inr (Or.inr rfl))) (by rfl) T.m_isinstance b_isinstance (by rfl) T.m_str b_str)) (fun _ => rfl))))) (xb_one (xs_ret (x_andV (x_cmp (op_eqD hr.units) s_eq (o_var (i := 0) rfl (by first | exact Or.inl rfl | exact Or.inr (Or.inl rfl) | exact Or.inr (Or.inr rfl))) (o_var (i := 1) rfl (by first | exact Or.inl rfl | exact Or.inr (Or.inl rfl) | exact Or.inr (Or.inr rfl))) (nomark _)) (pe_one (x_cmp (op_eqD hr.units) s_eq (o_v (x_isi1 (t := .str) (o_var (i := 0) rfl (by first | exact Or.inl rfl | exact Or.inr (Or.inl rfl) | exact Or.inr (Or.inr rfl))) (by rfl) T.m_isinstance b_isinstance (by rfl) T.m_str b_str)) (o_v (x_isi1 (t := .str) (o_var (i := 1) rfl (by first | exact Or.inl rfl | exact Or.inr (Or.inl rfl) | exact Or.inr (Or.inr rfl))) (by rfl) T.m_isinstance b_isinstance (by rfl) T.m_str b_str)) (nomark _)))))) xb_nil) (xb_one (xs_ret (x_andV (x_isi1 (t := .int) (o_var (i := 0) rfl (by first | exact Or.inl rfl | exact Or.inr (Or.inl rfl) | exact Or.inr (Or.inr rfl))) (by rfl) T.m_isinstance b_isinstance (by rfl) T.m_int b_int) (x_andV (x_cmp (op_eqD hr.units) s_eq (o_v (x_isi1 (t := .bool) (o_var (i := 0) rfl (by first | exact Or.inl rfl | exact Or.inr (Or.inl rfl) | exact Or.inr (Or.inr rfl))) (by rfl) T.m_isinstance b_isinstance (by rfl) T.m_bool b_bool)) (o_v (x_isi1 (t := .bool) (o_var (i := 1) rfl (by first | exact Or.inl rfl | exact Or.inr (Or.inl rfl) | exact Or.inr (Or.inr rfl))) (by rfl) T.m_isinstance b_isinstance (by rfl) T.m_bool b_bool)) (nomark _)) (pe_one (x_cmp (op_eqD hr.units) s_eq (o_var (i := 0) rfl (by first | exact Or.inl rfl | exact Or.inr (Or.inl rfl) | exact Or.inr (Or.inr rfl))) (o_var (i := 1) rfl (by first | exact Or.inl rfl | exact Or.inr (Or.inl rfl) | exact Or.inr (Or.inr rfl))) (nomark _)))))))))
theorem ok_law (T : Tx P w base K mg fd) {n : Nat} (I : Ih P w K mg base fd n) : FnOk P w K mg base CX0 (n + 1) (He.ga K "law") (fd 28) P_law (spI K (run (n + 1) "law")) := by
  have nd := sc_law.nd
  rw [run_law]
  refine T.f_law.ok sc_law (fun vs H Q E h => spI_len rfl h) (fun cdv A outer s H vs Q E hr h => ⟨kS K (F_law (run n)).body, PSs.nox ?_, fn_read rfl (show (1 : Nat) ≤ 16 by decide) h⟩)
  exact (xb_cons (xs_set (i := 1) nd rfl (by first | exact Or.inl rfl | exact Or.inr rfl) (x_lst (xa_cons (o_var (i := 0) rfl (by first | exact Or.inl rfl | exact Or.inr (Or.inl rfl) | exact Or.inr (Or.inr rfl))) (xa_cons (o_v x_int) (xa_cons (o_v x_int) (xa_cons (o_v x_int) xa_nil)))))) (xb_cons (xs_set (i := 2) nd rfl (by first | exact Or.inl rfl | exact Or.inr rfl) (x_callR (i := 1) I.i__law_prime hr (by rfl) T.g__law_prime T.k__law_prime T.b__law_prime pass0 (pe_var (i := 1) rfl (by first | exact Or.inl rfl | exact Or.inr (Or.inl rfl) | exact Or.inr (Or.inr rfl))) xa_nil)) (xb_cons (xs_set (i := 3) nd rfl (by first | exact Or.inl rfl | exact Or.inr rfl) (x_ix ix_any s_ix (o_v (x_lst (xa_cons (o_v x_int) (xa_cons (o_v x_int) (xa_cons (o_v (x_bin op_pow s_pow (o_v x_int) (o_v x_int))) (xa_cons (o_v (x_bin op_pow s_pow (o_v x_int) (o_v x_int))) xa_nil)))))) (o_v (x_callR (i := 1) I.i__law_taken hr (by rfl) T.g__law_taken T.k__law_taken T.b__law_taken pass0 (pe_var (i := 1) rfl (by first | exact Or.inl rfl | exact Or.inr (Or.inl rfl) | exact Or.inr (Or.inr rfl))) (xa_cons (o_v x_int) xa_nil))) (fun _ _ => rfl))) (xb_cons (xs_par (i := 4) (j := 5) rfl nd rfl rfl (by decide) rfl rfl (x_bin op_sub s_sub (o_v (x_callR (i := 1) I.i__law_taken hr (by rfl) T.g__law_taken T.k__law_taken T.b__law_taken pass0 (pe_var (i := 1) rfl (by first | exact Or.inl rfl | exact Or.inr (Or.inl rfl) | exact Or.inr (Or.inr rfl))) (xa_cons (o_v (x_bin op_mulA s_mul (o_v x_int) (o_var (i := 3) rfl (by first | exact Or.inl rfl | exact Or.inr (Or.inl rfl) | exact Or.inr (Or.inr rfl))))) xa_nil))) (o_var (i := 3) rfl (by first | exact Or.inl rfl | exact Or.inr (Or.inl rfl) | exact Or.inr (Or.inr rfl)))) (x_callR (i := 1) I.i__law_low hr (by rfl) T.g__law_low T.k__law_low T.b__law_low pass0 (pe_var (i := 1) rfl (by first | exact Or.inl rfl | exact Or.inr (Or.inl rfl) | exact Or.inr (Or.inr rfl))) (xa_cons (o_var (i := 2) rfl (by first | exact Or.inl rfl | exact Or.inr (Or.inl rfl) | exact Or.inr (Or.inr rfl))) (xa_cons (o_var (i := 3) rfl (by first | exact Or.inl rfl | exact Or.inr (Or.inl rfl) | exact Or.inr (Or.inr rfl))) xa_nil))) (by rfl)) (xb_cons (xs_set (i := 6) nd rfl (by first | exact Or.inl rfl | exact Or.inr rfl) (x_call I.i__law_lowest_of hr (by rfl) T.g__law_lowest_of T.k__law_lowest_of T.b__law_lowest_of pass0 (xa_cons (o_var (i := 4) rfl (by first | exact Or.inl rfl | exact Or.inr (Or.inl rfl) | exact Or.inr (Or.inr rfl))) (xa_cons (o_var (i := 5) rfl (by first | exact Or.inl rfl | exact Or.inr (Or.inl rfl) | exact Or.inr (Or.inr rfl))) xa_nil)))) (xb_cons (xs_parT (pg_tup rfl (pgs_cons (pg_name (i := 7) nd rfl (by first | exact Or.inl rfl | exact Or.inr rfl)) (pgs_cons (pg_name (i := 8) nd rfl (by first | exact Or.inl rfl | exact Or.inr rfl)) pgs_nil))) rfl (GSs.cons (GSs.cons GSs.nil)) (xr_cons x_int (xr_cons x_int xr_nil)) ⟨rfl, by decide⟩) (xb_cons (x_for PassesOwn.never rfl (xi_range1 (by rfl) T.m_range (o_v x_int)) (pg_name (i := 9) nd rfl (by first | exact Or.inl rfl | exact Or.inr rfl)) gs_nm (xb_one (xs_if (x_cmpT op_le s_le (o_var (i := 8) rfl (by first | exact Or.inl rfl | exact Or.inr (Or.inl rfl) | exact Or.inr (Or.inr rfl))) (o_v (x_bin op_mulA s_mul (o_v (x_bin op_mulA s_mul (o_v x_int) (o_v (x_biB (call_max2 rfl) s_max2 (by rfl) T.m_max b_max (xa_cons (o_v (x_biB call_abs s_abs (by rfl) T.m_abs b_abs (xa_cons (o_v (x_ix ix_any s_ix (o_var (i := 6) rfl (by first | exact Or.inl rfl | exact Or.inr (Or.inl rfl) | exact Or.inr (Or.inr rfl))) (o_v x_int) (fun _ _ => rfl))) xa_nil))) (xa_cons (o_v (x_ix ix_any s_ix (o_var (i := 6) rfl (by first | exact Or.inl rfl | exact Or.inr (Or.inl rfl) | exact Or.inr (Or.inr rfl))) (o_v x_int) (fun _ _ => rfl))) xa_nil)))))) (o_v (x_biB (call_max2 rfl) s_max2 (by rfl) T.m_max b_max (xa_cons (o_v (x_biB call_abs s_abs (by rfl) T.m_abs b_abs (xa_cons (o_v (x_ix ix_any s_ix (o_var (i := 6) rfl (by first | exact Or.inl rfl | exact Or.inr (Or.inl rfl) | exact Or.inr (Or.inr rfl))) (o_v x_int) (fun _ _ => rfl))) xa_nil))) (xa_cons (o_v (x_ix ix_any s_ix (o_var (i := 6) rfl (by first | exact Or.inl rfl | exact Or.inr (Or.inl rfl) | exact Or.inr (Or.inr rfl))) (o_v x_int) (fun _ _ => rfl))) xa_nil)))))) (nomark _)) (xb_one (xs_par (i := 7) (j := 8) rfl nd rfl rfl (by decide) rfl rfl (x_bin op_addA s_add (o_var (i := 7) rfl (by first | exact Or.inl rfl | exact Or.inr (Or.inl rfl) | exact Or.inr (Or.inr rfl))) (o_v x_int)) (x_bin op_mulA s_mul (o_var (i := 8) rfl (by first | exact Or.inl rfl | exact Or.inr (Or.inl rfl) | exact Or.inr (Or.inr rfl))) (o_var (i := 2) rfl (by first | exact Or.inl rfl | exact Or.inr (Or.inl rfl) | exact Or.inr (Or.inr rfl)))) (by rfl))) xb_nil))) (xb_cons (xs_set (i := 10) nd rfl (by first | exact Or.inl rfl | exact Or.inr rfl) (x_call I.i_fraction_row hr (by rfl) T.g_fraction_row T.k_fraction_row T.b_fraction_row pass0 (xa_cons (o_var (i := 2) rfl (by first | exact Or.inl rfl | exact Or.inr (Or.inl rfl) | exact Or.inr (Or.inr rfl))) (xa_cons (o_var (i := 6) rfl (by first | exact Or.inl rfl | exact Or.inr (Or.inl rfl) | exact Or.inr (Or.inr rfl))) (xa_cons (o_v (x_bin op_addA s_add (o_var (i := 7) rfl (by first | exact Or.inl rfl | exact Or.inr (Or.inl rfl) | exact Or.inr (Or.inr rfl))) (o_v (x_callR (i := 1) I.i__law_taken hr (by rfl) T.g__law_taken T.k__law_taken T.b__law_taken pass0 (pe_var (i := 1) rfl (by first | exact Or.inl rfl | exact Or.inr (Or.inl rfl) | exact Or.inr (Or.inr rfl))) (xa_cons (o_v x_int) xa_nil))))) xa_nil))))) (xb_cons (xs_if (x_not (x_truth (o_v (x_call I.i__law_alike hr (by rfl) T.g__law_alike T.k__law_alike T.b__law_alike pass0 (xa_cons (o_v (x_call I.i_least_fraction hr (by rfl) T.g_least_fraction T.k_least_fraction T.b_least_fraction pass0 (xa_cons (o_var (i := 2) rfl (by first | exact Or.inl rfl | exact Or.inr (Or.inl rfl) | exact Or.inr (Or.inr rfl))) (xa_cons (o_var (i := 10) rfl (by first | exact Or.inl rfl | exact Or.inr (Or.inl rfl) | exact Or.inr (Or.inr rfl))) xa_nil)))) (xa_cons (o_var (i := 6) rfl (by first | exact Or.inl rfl | exact Or.inr (Or.inl rfl) | exact Or.inr (Or.inr rfl))) xa_nil)))) (fun _ => rfl))) (xb_one (xs_ret x_bl)) xb_nil) (xb_cons (xs_if (x_not (x_truth (o_v (x_call I.i__law_alike hr (by rfl) T.g__law_alike T.k__law_alike T.b__law_alike pass0 (xa_cons (o_v (x_call I.i_carry_span hr (by rfl) T.g_carry_span T.k_carry_span T.b_carry_span pass0 (xa_cons (o_var (i := 2) rfl (by first | exact Or.inl rfl | exact Or.inr (Or.inl rfl) | exact Or.inr (Or.inr rfl))) (xa_cons (o_var (i := 10) rfl (by first | exact Or.inl rfl | exact Or.inr (Or.inl rfl) | exact Or.inr (Or.inr rfl))) xa_nil)))) (xa_cons (o_v (x_biB (call_max2 rfl) s_max2 (by rfl) T.m_max b_max (xa_cons (o_v (x_biB call_abs s_abs (by rfl) T.m_abs b_abs (xa_cons (o_v (x_ix ix_any s_ix (o_var (i := 6) rfl (by first | exact Or.inl rfl | exact Or.inr (Or.inl rfl) | exact Or.inr (Or.inr rfl))) (o_v x_int) (fun _ _ => rfl))) xa_nil))) (xa_cons (o_v (x_ix ix_any s_ix (o_var (i := 6) rfl (by first | exact Or.inl rfl | exact Or.inr (Or.inl rfl) | exact Or.inr (Or.inr rfl))) (o_v x_int) (fun _ _ => rfl))) xa_nil)))) xa_nil)))) (fun _ => rfl))) (xb_one (xs_ret x_bl)) xb_nil) (xb_cons (xs_par (i := 11) (j := 12) rfl nd rfl rfl (by decide) rfl rfl (x_biT call_tuple_of s_tupO (by rfl) T.m_tuple b_tuple (xa_cons (o_v (x_lc (own := [("at", 15)]) rfl nd (xi_range1 (by rfl) T.m_range (o_v x_int)) (blkOk_by (own := [("at", 15)]) (N := N_law) (sc := defScope (topS 43)) (by decide +kernel)) gs_nm (by simp [Tg.slots]) (fun _ _ _ _ _ => pg_name (i := 15) nd rfl (by first | exact Or.inl rfl | exact Or.inr rfl)) (fun _ _ _ _ _ => xts_nil) (fun _ _ _ _ _ => (x_callR (i := 1) I.i__law_taken hr (by rfl) T.g__law_taken T.k__law_taken T.b__law_taken pass0 (pe_var (i := 1) rfl (by first | exact Or.inl rfl | exact Or.inr (Or.inl rfl) | exact Or.inr (Or.inr rfl))) (xa_cons (o_var (i := 2) rfl (by first | exact Or.inl rfl | exact Or.inr (Or.inl rfl) | exact Or.inr (Or.inr rfl))) xa_nil))))) xa_nil)) x_int (by rfl)) (xb_cons (x_for PassesOwn.never rfl (xi_step5 (by rfl) T.m_range (o_v x_int) (o_v x_int)) (pg_name (i := 7) nd rfl (by first | exact Or.inl rfl | exact Or.inr rfl)) gs_nm (xb_cons (xs_set (i := 13) nd rfl (by first | exact Or.inl rfl | exact Or.inr rfl) (x_call I.i_carry_span hr (by rfl) T.g_carry_span T.k_carry_span T.b_carry_span pass0 (xa_cons (o_var (i := 2) rfl (by first | exact Or.inl rfl | exact Or.inr (Or.inl rfl) | exact Or.inr (Or.inr rfl))) (xa_cons (o_v (x_sl (o_var (i := 11) rfl (by first | exact Or.inl rfl | exact Or.inr (Or.inl rfl) | exact Or.inr (Or.inr rfl))) xp_none (xp_some (o_var (i := 7) rfl (by first | exact Or.inl rfl | exact Or.inr (Or.inl rfl) | exact Or.inr (Or.inr rfl)))))) xa_nil)))) (xb_cons (xs_if (x_cmpT op_lt s_lt (o_var (i := 13) rfl (by first | exact Or.inl rfl | exact Or.inr (Or.inl rfl) | exact Or.inr (Or.inr rfl))) (o_var (i := 12) rfl (by first | exact Or.inl rfl | exact Or.inr (Or.inl rfl) | exact Or.inr (Or.inr rfl))) (nomark _)) (xb_one (xs_ret x_bl)) xb_nil) (xb_cons (xs_set (i := 12) nd rfl (by first | exact Or.inl rfl | exact Or.inr rfl) (x_var (i := 13) rfl (by first | exact Or.inl rfl | exact Or.inr (Or.inl rfl) | exact Or.inr (Or.inr rfl)))) (xb_cons (xs_set (i := 14) nd rfl (by first | exact Or.inl rfl | exact Or.inr rfl) (x_call I.i_least_fraction hr (by rfl) T.g_least_fraction T.k_least_fraction T.b_least_fraction pass0 (xa_cons (o_var (i := 2) rfl (by first | exact Or.inl rfl | exact Or.inr (Or.inl rfl) | exact Or.inr (Or.inr rfl))) (xa_cons (o_v (x_sl (o_var (i := 11) rfl (by first | exact Or.inl rfl | exact Or.inr (Or.inl rfl) | exact Or.inr (Or.inr rfl))) xp_none (xp_some (o_var (i := 7) rfl (by first | exact Or.inl rfl | exact Or.inr (Or.inl rfl) | exact Or.inr (Or.inr rfl)))))) xa_nil)))) (xb_one (xs_if (PW.pt (x_or (x_cmpT (op_neD hr.units) s_ne (o_v (x_biB (call_max2 rfl) s_max2 (by rfl) T.m_max b_max (xa_cons (o_v (x_biB call_abs s_abs (by rfl) T.m_abs b_abs (xa_cons (o_v (x_ix ix_any s_ix (o_var (i := 14) rfl (by first | exact Or.inl rfl | exact Or.inr (Or.inl rfl) | exact Or.inr (Or.inr rfl))) (o_v x_int) (fun _ _ => rfl))) xa_nil))) (xa_cons (o_v (x_ix ix_any s_ix (o_var (i := 14) rfl (by first | exact Or.inl rfl | exact Or.inr (Or.inl rfl) | exact Or.inr (Or.inr rfl))) (o_v x_int) (fun _ _ => rfl))) xa_nil)))) (o_var (i := 13) rfl (by first | exact Or.inl rfl | exact Or.inr (Or.inl rfl) | exact Or.inr (Or.inr rfl))) (nomark _)) (pw_or1 (x_cmpT (op_neD hr.units) s_ne (o_v (x_call I.i_fraction_row hr (by rfl) T.g_fraction_row T.k_fraction_row T.b_fraction_row pass0 (xa_cons (o_var (i := 2) rfl (by first | exact Or.inl rfl | exact Or.inr (Or.inl rfl) | exact Or.inr (Or.inr rfl))) (xa_cons (o_var (i := 14) rfl (by first | exact Or.inl rfl | exact Or.inr (Or.inl rfl) | exact Or.inr (Or.inr rfl))) (xa_cons (o_var (i := 7) rfl (by first | exact Or.inl rfl | exact Or.inr (Or.inl rfl) | exact Or.inr (Or.inr rfl))) xa_nil))))) (o_v (x_sl (o_var (i := 11) rfl (by first | exact Or.inl rfl | exact Or.inr (Or.inl rfl) | exact Or.inr (Or.inr rfl))) xp_none (xp_some (o_var (i := 7) rfl (by first | exact Or.inl rfl | exact Or.inr (Or.inl rfl) | exact Or.inr (Or.inr rfl)))))) (nomark _))))) (xb_one (xs_ret x_bl)) xb_nil))))))) (xb_one (xs_ret x_bl))))))))))))))
theorem ih_zero : Ih P w K mg base fd 0 where
  i_power_of := fn_none
  i_inverse := fn_none
  i_is_between := fn_none
  i_are_numbers := fn_none
  i_check_prime := fn_none
  i_check_number := fn_none
  i_check_row := fn_none
  i_check_fraction := fn_none
  i_value_of := fn_none
  i_figures_of := fn_none
  i_rest_above := fn_none
  i__first_figure := fn_none
  i_carry_span := fn_none
  i_least_fraction := fn_none
  i__least_of := fn_none
  i__fitting := fn_none
  i__reduced := fn_none
  i__nearest := fn_none
  i__less := fn_none
  i__size := fn_none
  i_fraction_row := fn_none
  i__law_taken := fn_none
  i__law_pick := fn_none
  i__law_prime := fn_none
  i__law_low := fn_none
  i__law_shared := fn_none
  i__law_lowest_of := fn_none
  i__law_alike := fn_none
  i_law := fn_none
theorem ih_all (T : Tx P w base K mg fd) : ∀ n, Ih P w K mg base fd n
  | 0 => ih_zero
  | n + 1 =>
    have I := ih_all T n
    {
      i_power_of := ok_power_of T I
      i_inverse := ok_inverse T I
      i_is_between := ok_is_between T I
      i_are_numbers := ok_are_numbers T I
      i_check_prime := ok_check_prime T I
      i_check_number := ok_check_number T I
      i_check_row := ok_check_row T I
      i_check_fraction := ok_check_fraction T I
      i_value_of := ok_value_of T I
      i_figures_of := ok_figures_of T I
      i_rest_above := ok_rest_above T I
      i__first_figure := ok__first_figure T I
      i_carry_span := ok_carry_span T I
      i_least_fraction := ok_least_fraction T I
      i__least_of := ok__least_of T I
      i__fitting := ok__fitting T I
      i__reduced := ok__reduced T I
      i__nearest := ok__nearest T I
      i__less := ok__less T I
      i__size := ok__size T I
      i_fraction_row := ok_fraction_row T I
      i__law_taken := ok__law_taken T I
      i__law_pick := ok__law_pick T I
      i__law_prime := ok__law_prime T I
      i__law_low := ok__law_low T I
      i__law_shared := ok__law_shared T I
      i__law_lowest_of := ok__law_lowest_of T I
      i__law_alike := ok__law_alike T I
      i_law := ok_law T I
    }
end
/-! ### the head -/
def d_power_of : He.DefD := ⟨("power_of", none), "power_of", "power_of", defArgs (topS 7), defBody (topS 7), defScope (topS 7), [], []⟩
def d_inverse : He.DefD := ⟨("inverse", none), "inverse", "inverse", defArgs (topS 8), defBody (topS 8), defScope (topS 8), [], []⟩
def d_is_between : He.DefD := ⟨("is_between", none), "is_between", "is_between", defArgs (topS 13), defBody (topS 13), defScope (topS 13), [], []⟩
def d_are_numbers : He.DefD := ⟨("are_numbers", none), "are_numbers", "are_numbers", defArgs (topS 14), defBody (topS 14), defScope (topS 14), [], []⟩
def d_check_prime : He.DefD := ⟨("check_prime", none), "check_prime", "check_prime", defArgs (topS 15), defBody (topS 15), defScope (topS 15), [], []⟩
def d_check_number : He.DefD := ⟨("check_number", none), "check_number", "check_number", defArgs (topS 16), defBody (topS 16), defScope (topS 16), [], []⟩
def d_check_row : He.DefD := ⟨("check_row", none), "check_row", "check_row", defArgs (topS 17), defBody (topS 17), defScope (topS 17), [], []⟩
def d_check_fraction : He.DefD := ⟨("check_fraction", none), "check_fraction", "check_fraction", defArgs (topS 18), defBody (topS 18), defScope (topS 18), [], []⟩
def d_value_of : He.DefD := ⟨("value_of", none), "value_of", "value_of", defArgs (topS 20), defBody (topS 20), defScope (topS 20), [], []⟩
def d_figures_of : He.DefD := ⟨("figures_of", none), "figures_of", "figures_of", defArgs (topS 21), defBody (topS 21), defScope (topS 21), [], []⟩
def d_rest_above : He.DefD := ⟨("rest_above", none), "rest_above", "rest_above", defArgs (topS 22), defBody (topS 22), defScope (topS 22), [], []⟩
def d__first_figure : He.DefD := ⟨("_first_figure", none), "_first_figure", "_first_figure", defArgs (topS 23), defBody (topS 23), defScope (topS 23), [], []⟩
def d_carry_span : He.DefD := ⟨("carry_span", none), "carry_span", "carry_span", defArgs (topS 25), defBody (topS 25), defScope (topS 25), [], []⟩
def d_least_fraction : He.DefD := ⟨("least_fraction", none), "least_fraction", "least_fraction", defArgs (topS 26), defBody (topS 26), defScope (topS 26), [], []⟩
def d__least_of : He.DefD := ⟨("_least_of", none), "_least_of", "_least_of", defArgs (topS 27), defBody (topS 27), defScope (topS 27), [], []⟩
def d__fitting : He.DefD := ⟨("_fitting", none), "_fitting", "_fitting", defArgs (topS 28), defBody (topS 28), defScope (topS 28), [], []⟩
def d__reduced : He.DefD := ⟨("_reduced", none), "_reduced", "_reduced", defArgs (topS 29), defBody (topS 29), defScope (topS 29), [], []⟩
def d__nearest : He.DefD := ⟨("_nearest", none), "_nearest", "_nearest", defArgs (topS 30), defBody (topS 30), defScope (topS 30), [], []⟩
def d__less : He.DefD := ⟨("_less", none), "_less", "_less", defArgs (topS 31), defBody (topS 31), defScope (topS 31), [], []⟩
def d__size : He.DefD := ⟨("_size", none), "_size", "_size", defArgs (topS 32), defBody (topS 32), defScope (topS 32), [], []⟩
def d_fraction_row : He.DefD := ⟨("fraction_row", none), "fraction_row", "fraction_row", defArgs (topS 34), defBody (topS 34), defScope (topS 34), [], []⟩
def d__law_taken : He.DefD := ⟨("_law_taken", none), "_law_taken", "_law_taken", defArgs (topS 36), defBody (topS 36), defScope (topS 36), [], []⟩
def d__law_pick : He.DefD := ⟨("_law_pick", none), "_law_pick", "_law_pick", defArgs (topS 37), defBody (topS 37), defScope (topS 37), [], []⟩
def d__law_prime : He.DefD := ⟨("_law_prime", none), "_law_prime", "_law_prime", defArgs (topS 38), defBody (topS 38), defScope (topS 38), [], []⟩
def d__law_low : He.DefD := ⟨("_law_low", none), "_law_low", "_law_low", defArgs (topS 39), defBody (topS 39), defScope (topS 39), [], []⟩
def d__law_shared : He.DefD := ⟨("_law_shared", none), "_law_shared", "_law_shared", defArgs (topS 40), defBody (topS 40), defScope (topS 40), [], []⟩
def d__law_lowest_of : He.DefD := ⟨("_law_lowest_of", none), "_law_lowest_of", "_law_lowest_of", defArgs (topS 41), defBody (topS 41), defScope (topS 41), [], []⟩
def d__law_alike : He.DefD := ⟨("_law_alike", none), "_law_alike", "_law_alike", defArgs (topS 42), defBody (topS 42), defScope (topS 42), [], []⟩
def d_law : He.DefD := ⟨("law", none), "law", "law", defArgs (topS 43), defBody (topS 43), defScope (topS 43), [], []⟩
def fn : List He.DefD := [d_power_of, d_inverse, d_is_between, d_are_numbers, d_check_prime, d_check_number, d_check_row, d_check_fraction, d_value_of, d_figures_of, d_rest_above, d__first_figure, d_carry_span, d_least_fraction, d__least_of, d__fitting, d__reduced, d__nearest, d__less, d__size, d_fraction_row, d__law_taken, d__law_pick, d__law_prime, d__law_low, d__law_shared, d__law_lowest_of, d__law_alike, d_law]
def fa : List He.Fa := [.free "abs", .free "all", .free "bool", .free "int", .free "isinstance", .free "len", .free "list", .free "max", .free "min", .free "range", .free "reversed", .free "str", .free "tuple", .int "MOST_NUMBERS" 400, .int "MOST_PART" 1000000000000000000000000000000000000000000000000000000000000, .glo "PRIMES", .glo "power_of", .glo "inverse", .glo "is_between", .glo "are_numbers", .glo "check_prime", .glo "check_number", .glo "check_row", .glo "check_fraction", .glo "value_of", .glo "figures_of", .glo "rest_above", .glo "_first_figure", .glo "carry_span", .glo "least_fraction", .glo "_least_of", .glo "_fitting", .glo "_reduced", .glo "_nearest", .glo "_less", .glo "_size", .glo "fraction_row", .glo "_law_taken", .glo "_law_pick", .glo "_law_prime", .glo "_law_low", .glo "_law_shared", .glo "_law_lowest_of", .glo "_law_alike", .glo "law"]
def ex (K : PySem.W.Frag) : Bool := He.tupB K "PRIMES" [.int 2, .int 3, .int 5, .int 7] && (true)
abbrev R : PySem.W.OpenRow := PySem.W.OpenLaw.row PySem.Challenge.rw_taprows_k70_whole_fractions_told_back
abbrev hk : PySem.W.Hook := hookE 4 fa fn ex
def ob (s : PySem.W.SharedT) : He.AlD × Bool := obsE 4 fa fn ex (HandSHeadRun.getT s)
theorem ob_eq (s : PySem.W.SharedT) : ob s = hk.obs s.abs := obsE_eq (HandSHeadRun.getT_eq s)
def loose : List Str := (["RowsError", "BadPrime", "BadRow", "BadNumber", "BadFraction", "PRIMES", "MOST_NUMBERS", "MOST_PART", "power_of", "inverse", "is_between", "are_numbers", "check_prime", "check_number", "check_row", "check_fraction", "value_of", "figures_of", "rest_above", "_first_figure"] : List Str) ++ (["carry_span", "least_fraction", "_least_of", "_fitting", "_reduced", "_nearest", "_less", "_size", "fraction_row", "_law_taken", "_law_pick", "_law_prime", "_law_low", "_law_shared", "_law_lowest_of", "_law_alike"] : List Str)
theorem run_ok (w : World) : HandSHeadRun.RunEq R (PySem.W.view R.prog [43]) hk ob 8000 loose w := by
  intro os
  kernel_rfl
theorem tx {P : Program} {w : World} {K : PySem.W.Frag} {h : Heap} {mg : Str → Option Value} (X : K.In h) (G : h.Ns mainGlobals mg) (c : He.SaysD fa fn K) (ce : ex K = true) : ∃ fd, ∀ base, Tx P w base K mg fd := by
  obtain ⟨fd0, F0⟩ := c.def_ 0 (d := d_power_of) rfl
  obtain ⟨fd1, F1⟩ := c.def_ 1 (d := d_inverse) rfl
  obtain ⟨fd2, F2⟩ := c.def_ 2 (d := d_is_between) rfl
  obtain ⟨fd3, F3⟩ := c.def_ 3 (d := d_are_numbers) rfl
  obtain ⟨fd4, F4⟩ := c.def_ 4 (d := d_check_prime) rfl
  obtain ⟨fd5, F5⟩ := c.def_ 5 (d := d_check_number) rfl
  obtain ⟨fd6, F6⟩ := c.def_ 6 (d := d_check_row) rfl
  obtain ⟨fd7, F7⟩ := c.def_ 7 (d := d_check_fraction) rfl
  obtain ⟨fd8, F8⟩ := c.def_ 8 (d := d_value_of) rfl
  obtain ⟨fd9, F9⟩ := c.def_ 9 (d := d_figures_of) rfl
  obtain ⟨fd10, F10⟩ := c.def_ 10 (d := d_rest_above) rfl
  obtain ⟨fd11, F11⟩ := c.def_ 11 (d := d__first_figure) rfl
  obtain ⟨fd12, F12⟩ := c.def_ 12 (d := d_carry_span) rfl
  obtain ⟨fd13, F13⟩ := c.def_ 13 (d := d_least_fraction) rfl
  obtain ⟨fd14, F14⟩ := c.def_ 14 (d := d__least_of) rfl
  obtain ⟨fd15, F15⟩ := c.def_ 15 (d := d__fitting) rfl
  obtain ⟨fd16, F16⟩ := c.def_ 16 (d := d__reduced) rfl
  obtain ⟨fd17, F17⟩ := c.def_ 17 (d := d__nearest) rfl
  obtain ⟨fd18, F18⟩ := c.def_ 18 (d := d__less) rfl
  obtain ⟨fd19, F19⟩ := c.def_ 19 (d := d__size) rfl
  obtain ⟨fd20, F20⟩ := c.def_ 20 (d := d_fraction_row) rfl
  obtain ⟨fd21, F21⟩ := c.def_ 21 (d := d__law_taken) rfl
  obtain ⟨fd22, F22⟩ := c.def_ 22 (d := d__law_pick) rfl
  obtain ⟨fd23, F23⟩ := c.def_ 23 (d := d__law_prime) rfl
  obtain ⟨fd24, F24⟩ := c.def_ 24 (d := d__law_low) rfl
  obtain ⟨fd25, F25⟩ := c.def_ 25 (d := d__law_shared) rfl
  obtain ⟨fd26, F26⟩ := c.def_ 26 (d := d__law_lowest_of) rfl
  obtain ⟨fd27, F27⟩ := c.def_ 27 (d := d__law_alike) rfl
  obtain ⟨fd28, F28⟩ := c.def_ 28 (d := d_law) rfl
  let fd : Nat → FuncData := fun i => match i with
    | 0 => fd0
    | 1 => fd1
    | 2 => fd2
    | 3 => fd3
    | 4 => fd4
    | 5 => fd5
    | 6 => fd6
    | 7 => fd7
    | 8 => fd8
    | 9 => fd9
    | 10 => fd10
    | 11 => fd11
    | 12 => fd12
    | 13 => fd13
    | 14 => fd14
    | 15 => fd15
    | 16 => fd16
    | 17 => fd17
    | 18 => fd18
    | 19 => fd19
    | 20 => fd20
    | 21 => fd21
    | 22 => fd22
    | 23 => fd23
    | 24 => fd24
    | 25 => fd25
    | 26 => fd26
    | 27 => fd27
    | 28 => fd28
    | _ => fd0
  exact ⟨fd, fun base => {
    m_abs := He.free_ok X G (c.fact 0 rfl)
    m_all := He.free_ok X G (c.fact 1 rfl)
    m_bool := He.free_ok X G (c.fact 2 rfl)
    m_int := He.free_ok X G (c.fact 3 rfl)
    m_isinstance := He.free_ok X G (c.fact 4 rfl)
    m_len := He.free_ok X G (c.fact 5 rfl)
    m_list := He.free_ok X G (c.fact 6 rfl)
    m_max := He.free_ok X G (c.fact 7 rfl)
    m_min := He.free_ok X G (c.fact 8 rfl)
    m_range := He.free_ok X G (c.fact 9 rfl)
    m_reversed := He.free_ok X G (c.fact 10 rfl)
    m_str := He.free_ok X G (c.fact 11 rfl)
    m_tuple := He.free_ok X G (c.fact 12 rfl)
    c_MOST_NUMBERS := He.int_ok X G (c.fact 13 rfl)
    c_MOST_PART := He.int_ok X G (c.fact 14 rfl)
    g_PRIMES := He.glo_ok X G (c.fact 15 rfl)
    t_PRIMES := fun H => He.tupB_ok (vs := [.int 2, .int 3, .int 5, .int 7]) (He.ba ce).1 H
    g_power_of := He.glo_ok X G (c.fact 16 rfl)
    g_inverse := He.glo_ok X G (c.fact 17 rfl)
    g_is_between := He.glo_ok X G (c.fact 18 rfl)
    g_are_numbers := He.glo_ok X G (c.fact 19 rfl)
    g_check_prime := He.glo_ok X G (c.fact 20 rfl)
    g_check_number := He.glo_ok X G (c.fact 21 rfl)
    g_check_row := He.glo_ok X G (c.fact 22 rfl)
    g_check_fraction := He.glo_ok X G (c.fact 23 rfl)
    g_value_of := He.glo_ok X G (c.fact 24 rfl)
    g_figures_of := He.glo_ok X G (c.fact 25 rfl)
    g_rest_above := He.glo_ok X G (c.fact 26 rfl)
    g__first_figure := He.glo_ok X G (c.fact 27 rfl)
    g_carry_span := He.glo_ok X G (c.fact 28 rfl)
    g_least_fraction := He.glo_ok X G (c.fact 29 rfl)
    g__least_of := He.glo_ok X G (c.fact 30 rfl)
    g__fitting := He.glo_ok X G (c.fact 31 rfl)
    g__reduced := He.glo_ok X G (c.fact 32 rfl)
    g__nearest := He.glo_ok X G (c.fact 33 rfl)
    g__less := He.glo_ok X G (c.fact 34 rfl)
    g__size := He.glo_ok X G (c.fact 35 rfl)
    g_fraction_row := He.glo_ok X G (c.fact 36 rfl)
    g__law_taken := He.glo_ok X G (c.fact 37 rfl)
    g__law_pick := He.glo_ok X G (c.fact 38 rfl)
    g__law_prime := He.glo_ok X G (c.fact 39 rfl)
    g__law_low := He.glo_ok X G (c.fact 40 rfl)
    g__law_shared := He.glo_ok X G (c.fact 41 rfl)
    g__law_lowest_of := He.glo_ok X G (c.fact 42 rfl)
    g__law_alike := He.glo_ok X G (c.fact 43 rfl)
    g_law := He.glo_ok X G (c.fact 44 rfl)
    f_power_of := F0
    k_power_of := F0.kp
    b_power_of := FunD.bindsN F0 fun _ _ _ _ _ _ us hl => match us, hl with | [_, _], _ => rfl
    f_inverse := F1
    k_inverse := F1.kp
    b_inverse := FunD.bindsN F1 fun _ _ _ _ _ _ us hl => match us, hl with | [_, _], _ => rfl
    f_is_between := F2
    k_is_between := F2.kp
    b_is_between := FunD.bindsN F2 fun _ _ _ _ _ _ us hl => match us, hl with | [_, _, _], _ => rfl
    f_are_numbers := F3
    k_are_numbers := F3.kp
    b_are_numbers := FunD.bindsN F3 fun _ _ _ _ _ _ us hl => match us, hl with | [_, _, _], _ => rfl
    f_check_prime := F4
    k_check_prime := F4.kp
    b_check_prime := FunD.bindsN F4 fun _ _ _ _ _ _ us hl => match us, hl with | [_], _ => rfl
    f_check_number := F5
    k_check_number := F5.kp
    b_check_number := FunD.bindsN F5 fun _ _ _ _ _ _ us hl => match us, hl with | [_, _, _], _ => rfl
    f_check_row := F6
    k_check_row := F6.kp
    b_check_row := FunD.bindsN F6 fun _ _ _ _ _ _ us hl => match us, hl with | [_, _], _ => rfl
    f_check_fraction := F7
    k_check_fraction := F7.kp
    b_check_fraction := FunD.bindsN F7 fun _ _ _ _ _ _ us hl => match us, hl with | [_, _], _ => rfl
    f_value_of := F8
    k_value_of := F8.kp
    b_value_of := FunD.bindsN F8 fun _ _ _ _ _ _ us hl => match us, hl with | [_, _], _ => rfl
    f_figures_of := F9
    k_figures_of := F9.kp
    b_figures_of := FunD.bindsN F9 fun _ _ _ _ _ _ us hl => match us, hl with | [_, _, _, _], _ => rfl
    f_rest_above := F10
    k_rest_above := F10.kp
    b_rest_above := FunD.bindsN F10 fun _ _ _ _ _ _ us hl => match us, hl with | [_, _, _], _ => rfl
    f__first_figure := F11
    k__first_figure := F11.kp
    b__first_figure := FunD.bindsN F11 fun _ _ _ _ _ _ us hl => match us, hl with | [_, _, _], _ => rfl
    f_carry_span := F12
    k_carry_span := F12.kp
    b_carry_span := FunD.bindsN F12 fun _ _ _ _ _ _ us hl => match us, hl with | [_, _], _ => rfl
    f_least_fraction := F13
    k_least_fraction := F13.kp
    b_least_fraction := FunD.bindsN F13 fun _ _ _ _ _ _ us hl => match us, hl with | [_, _], _ => rfl
    f__least_of := F14
    k__least_of := F14.kp
    b__least_of := FunD.bindsN F14 fun _ _ _ _ _ _ us hl => match us, hl with | [_, _], _ => rfl
    f__fitting := F15
    k__fitting := F15.kp
    b__fitting := FunD.bindsN F15 fun _ _ _ _ _ _ us hl => match us, hl with | [_, _], _ => rfl
    f__reduced := F16
    k__reduced := F16.kp
    b__reduced := FunD.bindsN F16 fun _ _ _ _ _ _ us hl => match us, hl with | [_, _], _ => rfl
    f__nearest := F17
    k__nearest := F17.kp
    b__nearest := FunD.bindsN F17 fun _ _ _ _ _ _ us hl => match us, hl with | [_, _], _ => rfl
    f__less := F18
    k__less := F18.kp
    b__less := FunD.bindsN F18 fun _ _ _ _ _ _ us hl => match us, hl with | [_, _, _], _ => rfl
    f__size := F19
    k__size := F19.kp
    b__size := FunD.bindsN F19 fun _ _ _ _ _ _ us hl => match us, hl with | [_], _ => rfl
    f_fraction_row := F20
    k_fraction_row := F20.kp
    b_fraction_row := FunD.bindsN F20 fun _ _ _ _ _ _ us hl => match us, hl with | [_, _, _], _ => rfl
    f__law_taken := F21
    k__law_taken := F21.kp
    b__law_taken := FunD.bindsN F21 fun _ _ _ _ _ _ us hl => match us, hl with | [_, _], _ => rfl
    f__law_pick := F22
    k__law_pick := F22.kp
    b__law_pick := FunD.bindsN F22 fun _ _ _ _ _ _ us hl => match us, hl with | [_, _], _ => rfl
    f__law_prime := F23
    k__law_prime := F23.kp
    b__law_prime := FunD.bindsN F23 fun _ _ _ _ _ _ us hl => match us, hl with | [_], _ => rfl
    f__law_low := F24
    k__law_low := F24.kp
    b__law_low := FunD.bindsN F24 fun _ _ _ _ _ _ us hl => match us, hl with | [_, _, _], _ => rfl
    f__law_shared := F25
    k__law_shared := F25.kp
    b__law_shared := FunD.bindsN F25 fun _ _ _ _ _ _ us hl => match us, hl with | [_, _], _ => rfl
    f__law_lowest_of := F26
    k__law_lowest_of := F26.kp
    b__law_lowest_of := FunD.bindsN F26 fun _ _ _ _ _ _ us hl => match us, hl with | [_, _], _ => rfl
    f__law_alike := F27
    k__law_alike := F27.kp
    b__law_alike := FunD.bindsN F27 fun _ _ _ _ _ _ us hl => match us, hl with | [_, _], _ => rfl
    f_law := F28
    k_law := F28.kp
    b_law := FunD.bindsN F28 fun _ _ _ _ _ _ us hl => match us, hl with | [_], _ => rfl }⟩
end IPL
open PySem PySem.W PySem.Calls PyProof.Rows
theorem IPL.fin_law (law_true : ∀ ns : List Int, ns.length ≤ 63 → IPL.run 30 "law" none [IP.scr ns] = some (.dat (.bool true), none)) : PySem.Challenge.rw_taprows_k70_whole_fractions_told_back.Holds := by
  w_on; o_law
  refine HandSHeadRun.head_any (r := OpenLaw.row PySem.Challenge.rw_taprows_k70_whole_fractions_told_back) (q := view (OpenLaw.row PySem.Challenge.rw_taprows_k70_whole_fractions_told_back).prog [43]) (H := IPL.hk) (ob := IPL.ob) (M := 8000) (loose := IPL.loose) (d := HandSHeadRun.topDef (OpenLaw.row PySem.Challenge.rw_taprows_k70_whole_fractions_told_back).prog 43) (kwd := []) IPL.ob_eq
    (by kernel_rfl) (fun s => by kernel_rfl) IPL.run_ok (by kernel_rfl) (by kernel_rfl) (by kernel_rfl) (by rfl) (by first | assumption | decide +kernel) (by decide +kernel) ⟨rfl, rfl, rfl, rfl, rfl, by decide +kernel⟩ ?hw ?hc
  case hw => w_witness2
  case hc =>
    refine L2.walk_ofE (l := PySem.Challenge.rw_taprows_k70_whole_fractions_told_back) (n := 63) (k := 30) (x := "script") (CX := L2.CX0) rfl (by decide) (by kernel_rfl) ⟨rfl, by decide, by decide⟩ ?F (fun _ _ _ _ z => z)
    intro w mg fa h Y G hmg0
    obtain ⟨K, KX, c, ce⟩ := Y
    have hmg : mg ("law" : PySem.Str) = some (.ref fa) := by
      have e : (HandSHeadRun.topDef (OpenLaw.row PySem.Challenge.rw_taprows_k70_whole_fractions_told_back).prog 43).name = ("law" : PySem.Str) := by kernel_rfl
      rw [← e]
      exact hmg0
    obtain ⟨fd, T⟩ := IPL.tx KX G c ce (P := (PySem.Challenge.rw_taprows_k70_whole_fractions_told_back).prog) (w := w)
    have e := hmg.symm.trans (T h).g_law
    cases e
    refine ⟨K, fd 28, IP.spI K (IPL.run 30 "law"), KX, fun s v => L2.FunD.bindsA (T h).f_law (ps := ["script"]) (fun _ _ _ _ _ _ us hl => match us, hl with | [_], _ => rfl) s [v] rfl, fun H a ns hl _ hS => ?_, fun base _ _ => (IPL.ih_all (P := (PySem.Challenge.rw_taprows_k70_whole_fractions_told_back).prog) (w := w) (base := base) (T base) 30).i_law⟩
    exact IP.law_end hS (law_true ns hl)
end
section
set_option linter.all false
set_option maxRecDepth 8000
/-! Com0: what laws share, apart from any table of functions. -/
namespace IPL
open IP
open PySem (PyData)
/-- all within 0 .. p - 1, at most so many -/
def numsB (p : Int) (most : Int) (xs : List Int) : Bool := if most < (xs.length : Int) then false else xs.all fun x => decide (0 ≤ x ∧ x ≤ p - 1)
def isPrime (p : Int) : Prop := p = 2 ∨ p = 3 ∨ p = 5 ∨ p = 7
def nums (p : Int) (xs : List Int) : Prop := ∀ x ∈ xs, 0 ≤ x ∧ x < p
theorem numsB_of {p most : Int} {xs : List Int} (h : nums p xs) (hl : (xs.length : Int) ≤ most) : numsB p most xs = true := by
  unfold numsB
  rw [if_neg (by omega), List.all_eq_true]
  intro x hx
  have := h x hx
  exact decide_eq_true (by omega)
theorem prime_pos {p : Int} (h : isPrime p) : 2 ≤ p ∧ p ≤ 7 := by
  rcases h with rfl | rfl | rfl | rfl <;> decide
/-- what a law draws from: the script, how far it is read, what is kept -/
def RowOk (ns : List Int) (xs : List D) : Prop := ∃ a b c : Int, xs = [scr ns, .int a, .int b, .int c] ∧ 0 ≤ a
theorem atD4_0 (a b c d : D) : atD [a, b, c, d] 0 = some a := rfl
theorem atD4_1 (a b c d : D) : atD [a, b, c, d] 1 = some b := rfl
theorem atD4_2 (a b c d : D) : atD [a, b, c, d] 2 = some c := rfl
theorem atD4_3 (a b c d : D) : atD [a, b, c, d] 3 = some d := rfl
theorem ixN4_1 : IP.ixN 4 1 = some 1 := rfl
theorem ixN4_2 : IP.ixN 4 2 = some 2 := rfl
theorem ixN4_3 : IP.ixN 4 3 = some 3 := rfl
@[simp] theorem shaped_int (v : Int) : PySem.SeqAt.shaped (.int v) = true := EV.shI v
@[simp] theorem shaped_none : PySem.SeqAt.shaped .none = true := EV.shN
@[simp] theorem shaped_bool (v : Bool) : PySem.SeqAt.shaped (.bool v) = true := EV.shB v
@[simp] theorem shaped_nil : PySem.SeqAt.shaped (.list []) = true := by decide
@[simp] theorem eqv_int (a b : Int) : PyData.eqv (.int a) (.int b) = (a == b) := by rw [PyData.eqv]
@[simp] theorem eqv_none : PyData.eqv .none .none = true := by rw [PyData.eqv]
@[simp] theorem eqv_bool (a b : Bool) : PyData.eqv (.bool a) (.bool b) = (a == b) := by rw [PyData.eqv]
@[simp] theorem eqv_int_none (a : Int) : PyData.eqv (.int a) .none = false := by rw [PyData.eqv] <;> simp
@[simp] theorem eqv_nil : PyData.eqv (.list []) (.list []) = true := by rw [PyData.eqv, PyData.eqvAll]
theorem depthAll_ints : ∀ xs : List Int, PyData.depthAll (xs.map .int) ≤ 1
  | [] => by simp [PyData.depthAll]
  | x :: xs => by
    have := depthAll_ints xs
    simp [PyData.depthAll, PyData.depth] at *
    omega
theorem canLay_ints : ∀ xs : List Int, PyData.canLayAll0 (xs.map .int) = true
  | [] => by simp [PyData.canLayAll0]
  | x :: xs => by simp [PyData.canLayAll0, PyData.canLay0, canLay_ints xs]
@[simp] theorem shaped_row (xs : List Int) : PySem.SeqAt.shaped (.tuple (xs.map .int)) = true := by
  have := depthAll_ints xs
  simp [PySem.SeqAt.shaped, PyData.canLay0, PyData.depth, canLay_ints]
  omega
@[simp] theorem shaped_lst (xs : List Int) : PySem.SeqAt.shaped (.list (xs.map .int)) = true := by
  have := depthAll_ints xs
  simp [PySem.SeqAt.shaped, PyData.canLay0, PyData.depth, canLay_ints]
  omega
theorem eqvAll_ints : ∀ xs ys : List Int, PyData.eqvAll (xs.map .int) (ys.map .int) = decide (xs = ys)
  | [], [] => by simp [PyData.eqvAll]
  | [], y :: ys => by simp [PyData.eqvAll]
  | x :: xs, [] => by simp [PyData.eqvAll]
  | x :: xs, y :: ys => by
    simp [PyData.eqvAll, eqvAll_ints xs ys]
    by_cases h1 : x = y <;> by_cases h2 : xs = ys <;> simp [h1, h2]
@[simp] theorem eqv_row (xs ys : List Int) : PyData.eqv (.tuple (xs.map .int)) (.tuple (ys.map .int)) = decide (xs = ys) := by
  rw [PyData.eqv, eqvAll_ints]
@[simp] theorem eqv_lst (xs ys : List Int) : PyData.eqv (.list (xs.map .int)) (.list (ys.map .int)) = decide (xs = ys) := by
  rw [PyData.eqv, eqvAll_ints]
theorem p_eqT {us vs : List Int} : bEq (iT us) (iT vs) = some (.dat (.bool (decide (us = vs)))) := by rw [bEq, if_pos ⟨shaped_row us, shaped_row vs⟩, eqv_row]
theorem p_neT {us vs : List Int} : bNe (iT us) (iT vs) = some (.dat (.bool (!decide (us = vs)))) := by rw [bNe, if_pos ⟨shaped_row us, shaped_row vs⟩, eqv_row]
theorem p_eqT1 {us : List Int} {v : Int} : bEq (iT us) (.tuple [.int v]) = some (.dat (.bool (decide (us = [v])))) := p_eqT (vs := [v])
theorem p_neT1 {us : List Int} {v : Int} : bNe (iT us) (.tuple [.int v]) = some (.dat (.bool (!decide (us = [v])))) := p_neT (vs := [v])
theorem p_eqL {us vs : List Int} : bEq (iL us) (iL vs) = some (.dat (.bool (decide (us = vs)))) := by rw [bEq, if_pos ⟨shaped_lst us, shaped_lst vs⟩, eqv_lst]
theorem p_neL {us vs : List Int} : bNe (iL us) (iL vs) = some (.dat (.bool (!decide (us = vs)))) := by rw [bNe, if_pos ⟨shaped_lst us, shaped_lst vs⟩, eqv_lst]
theorem p_eqT0 {us : List Int} : bEq (iT us) (.tuple []) = some (.dat (.bool (decide (us = [])))) := p_eqT (vs := [])
theorem p_neT0 {us : List Int} : bNe (iT us) (.tuple []) = some (.dat (.bool (!decide (us = [])))) := p_neT (vs := [])
theorem p_eqL1 {us : List Int} {v : Int} : bEq (iL us) (.list [.int v]) = some (.dat (.bool (decide (us = [v])))) := p_eqL (vs := [v])
theorem p_neL1 {us : List Int} {v : Int} : bNe (iL us) (.list [.int v]) = some (.dat (.bool (!decide (us = [v])))) := p_neL (vs := [v])
theorem p_eqL0 : bEq (.list []) (.list []) = some (.dat (.bool true)) := by
  have := p_eqL (us := []) (vs := [])
  simpa using this
/-! draws in a comprehension -/
/-- a function that draws a number below m from a row -/
def Draws (c : Fnc) (ns : List Int) (m : Int) : Prop := ∀ xs, RowOk ns xs → ∃ k xs', c (some xs) [.int m] = some (.dat (.int k), some xs') ∧ (0 ≤ k ∧ k < m) ∧ RowOk ns xs'
theorem lc_draws {c : Fnc} {ns : List Int} {m : Int} (hd : Draws c ns m) {v : Nat} {e : Ev} (E : List D → Env) (EP : List D → D → Env)
    (h1 : ∀ xs d, (Tg.nm v).put d (E xs) = some (EP xs d)) (h2 : ∀ xs d k xs', c (some xs) [.int m] = some (.dat (.int k), some xs') → e (EP xs d) = some (.dat (.int k), EP xs' d)) (h3 : ∀ xs d, unAll [v] (EP xs d) = some (E xs)) (src : List D) : ∀ (ds : List D) (xs : List D), RowOk ns xs →
    ∃ is xs', lcGo [v] (.nm v) tYes e src none ds (E xs) = some (is.map .int, E xs') ∧ is.length = ds.length ∧ nums m is ∧ RowOk ns xs'
  | [], xs, hx => ⟨[], xs, by simp [lcGo], rfl, fun x h => by simp at h, hx⟩
  | d :: ds, xs, hx => by
    obtain ⟨k, xs1, e1, hk, hx1⟩ := hd xs hx
    obtain ⟨is, xs2, e2, hl, hn, hx2⟩ := lc_draws hd E EP h1 h2 h3 src ds xs1 hx1
    refine ⟨k :: is, xs2, ?_, by simp [hl], ?_, hx2⟩
    · have et : lcTurn [v] (.nm v) tYes e d (E xs) = some (some (.int k), E xs1) := by
        unfold lcTurn
        rw [h1]
        simp only [Option.bind_some, tYes, if_true, h2 _ _ _ _ e1, h3, Option.map_some, Res.toD]
      rw [lcGo_cons rfl, et]
      simp only [Option.bind_some, e2, Option.map_some]
      rfl
    · intro x hx
      rcases List.mem_cons.mp hx with rfl | hx
      · exact hk
      · exact hn x hx
/-- a draw's bound -/
def okM (m : Int) : Prop := 0 < m ∧ (m < 1073741824 ∨ m.natAbs.log2 < 9000)
theorem okM_s {m : Int} (h : 0 < m) (h2 : m < 1073741824) : okM m := ⟨h, .inl h2⟩
end IPL
end
section
set_option linter.all false
set_option maxRecDepth 8000
/-! Com1: tuples and lists of rows. -/
namespace IPL
open IP
open PySem (PyData)
abbrev iTT (xs : List (List Int)) : D := .tuple (xs.map iT)
abbrev iLT (xs : List (List Int)) : D := .list (xs.map iT)
theorem depthAll_rows : ∀ xs : List (List Int), PyData.depthAll (xs.map iT) ≤ 3
  | [] => by simp [PyData.depthAll]
  | x :: xs => by
    have h1 := depthAll_rows xs
    have h2 := depthAll_ints x
    simp only [List.map_cons, PyData.depthAll, PyData.depth] at *
    omega
theorem canLay_rows : ∀ xs : List (List Int), PyData.canLayAll0 (xs.map iT) = true
  | [] => by simp [PyData.canLayAll0]
  | x :: xs => by simp [PyData.canLayAll0, PyData.canLay0, canLay_ints, canLay_rows xs]
theorem shaped_rows (xs : List (List Int)) : PySem.SeqAt.shaped (iTT xs) = true := by
  have := depthAll_rows xs
  simp [PySem.SeqAt.shaped, PyData.canLay0, PyData.depth, canLay_rows]
  omega
theorem shaped_rowsL (xs : List (List Int)) : PySem.SeqAt.shaped (iLT xs) = true := by
  have := depthAll_rows xs
  simp [PySem.SeqAt.shaped, PyData.canLay0, PyData.depth, canLay_rows]
  omega
theorem eqvAll_rows : ∀ xs ys : List (List Int), PyData.eqvAll (xs.map iT) (ys.map iT) = decide (xs = ys)
  | [], [] => by simp [PyData.eqvAll]
  | [], y :: ys => by simp [PyData.eqvAll]
  | x :: xs, [] => by simp [PyData.eqvAll]
  | x :: xs, y :: ys => by
    have h : PyData.eqv (iT x) (iT y) = decide (x = y) := eqv_row x y
    rw [List.map_cons, List.map_cons, PyData.eqvAll, h, eqvAll_rows xs ys]
    by_cases h1 : x = y <;> by_cases h2 : xs = ys <;> simp [h1, h2]
theorem p_eqTT {us vs : List (List Int)} : bEq (iTT us) (iTT vs) = some (.dat (.bool (decide (us = vs)))) := by rw [bEq, if_pos ⟨shaped_rows us, shaped_rows vs⟩, PyData.eqv, eqvAll_rows]
theorem p_neTT {us vs : List (List Int)} : bNe (iTT us) (iTT vs) = some (.dat (.bool (!decide (us = vs)))) := by rw [bNe, if_pos ⟨shaped_rows us, shaped_rows vs⟩, PyData.eqv, eqvAll_rows]
theorem p_eqLT {us vs : List (List Int)} : bEq (iLT us) (iLT vs) = some (.dat (.bool (decide (us = vs)))) := by rw [bEq, if_pos ⟨shaped_rowsL us, shaped_rowsL vs⟩, PyData.eqv, eqvAll_rows]
theorem p_neLT {us vs : List (List Int)} : bNe (iLT us) (iLT vs) = some (.dat (.bool (!decide (us = vs)))) := by rw [bNe, if_pos ⟨shaped_rowsL us, shaped_rowsL vs⟩, PyData.eqv, eqvAll_rows]
theorem p_ixTT {us : List (List Int)} {k : Nat} (h : k < us.length) : bIx (iTT us) (.int (k : Int)) = some (.dat (iT (us.getD k []))) := by
  rw [EV.p_ixDT (by simpa using h)]
  simp [List.getD, h]
theorem p_ixLT {us : List (List Int)} {k : Nat} (h : k < us.length) : bIx (iLT us) (.int (k : Int)) = some (.dat (iT (us.getD k []))) := by
  rw [EV.p_ixDL (by simpa using h)]
  simp [List.getD, h]
theorem p_neL0 : bNe (.list []) (.list []) = some (.dat (.bool false)) := by
  have := p_neL (us := []) (vs := [])
  simpa using this
theorem map_map_iT {α : Type} (f : α → List Int) (l : List α) : l.map (fun x => iT (f x)) = (l.map f).map iT := by rw [List.map_map]; rfl
end IPL
end
section
set_option linter.all false
set_option maxRecDepth 8000
/-! Fig: figures of numbers to the base of a prime; inverses. -/
namespace IPL
open IP
open PySem (PyData)
/-- the least number from 1 on that is inverse to l modulo p -/
def IsInv (p l : Int) (m : Nat) : Prop := 1 ≤ m ∧ m ≤ 6 ∧ l * (m : Int) % p = 1 ∧ ∀ j : Nat, 1 ≤ j → j < m → l * (j : Int) % p ≠ 1
theorem inv_ex {p l : Int} (hp : isPrime p) (hl : l % p ≠ 0) : ∃ m, IsInv p l m := by
  have mk : ∀ m : Nat, 1 ≤ m → m ≤ 6 → l * (m : Int) % p = 1 → (∀ j : Nat, 1 ≤ j → j < m → l * (j : Int) % p ≠ 1) → ∃ m, IsInv p l m := fun m a b c d => ⟨m, a, b, c, d⟩
  rcases hp with rfl | rfl | rfl | rfl
  · refine mk 1 (by omega) (by omega) ?_ ?_
    · omega
    · intro j h1 h2; omega
  · have : l % 3 = 1 ∨ l % 3 = 2 := by omega
    rcases this with h | h
    · refine mk 1 (by omega) (by omega) (by omega) ?_; intro j h1 h2; omega
    · refine mk 2 (by omega) (by omega) (by omega) ?_
      intro j h1 h2
      obtain rfl : j = 1 := by omega
      omega
  · have : l % 5 = 1 ∨ l % 5 = 2 ∨ l % 5 = 3 ∨ l % 5 = 4 := by omega
    rcases this with h | h | h | h
    · refine mk 1 (by omega) (by omega) (by omega) ?_; intro j h1 h2; omega
    · refine mk 3 (by omega) (by omega) (by omega) ?_
      intro j h1 h2
      have : j = 1 ∨ j = 2 := by omega
      rcases this with rfl | rfl <;> omega
    · refine mk 2 (by omega) (by omega) (by omega) ?_
      intro j h1 h2
      obtain rfl : j = 1 := by omega
      omega
    · refine mk 4 (by omega) (by omega) (by omega) ?_
      intro j h1 h2
      have : j = 1 ∨ j = 2 ∨ j = 3 := by omega
      rcases this with rfl | rfl | rfl <;> omega
  · have : l % 7 = 1 ∨ l % 7 = 2 ∨ l % 7 = 3 ∨ l % 7 = 4 ∨ l % 7 = 5 ∨ l % 7 = 6 := by omega
    rcases this with h | h | h | h | h | h
    · refine mk 1 (by omega) (by omega) (by omega) ?_; intro j h1 h2; omega
    · refine mk 4 (by omega) (by omega) (by omega) ?_
      intro j h1 h2
      have : j = 1 ∨ j = 2 ∨ j = 3 := by omega
      rcases this with rfl | rfl | rfl <;> omega
    · refine mk 5 (by omega) (by omega) (by omega) ?_
      intro j h1 h2
      have : j = 1 ∨ j = 2 ∨ j = 3 ∨ j = 4 := by omega
      rcases this with rfl | rfl | rfl | rfl <;> omega
    · refine mk 2 (by omega) (by omega) (by omega) ?_
      intro j h1 h2
      obtain rfl : j = 1 := by omega
      omega
    · refine mk 3 (by omega) (by omega) (by omega) ?_
      intro j h1 h2
      have : j = 1 ∨ j = 2 := by omega
      rcases this with rfl | rfl <;> omega
    · refine mk 6 (by omega) (by omega) (by omega) ?_
      intro j h1 h2
      have : j = 1 ∨ j = 2 ∨ j = 3 ∨ j = 4 ∨ j = 5 := by omega
      rcases this with rfl | rfl | rfl | rfl | rfl <;> omega
theorem IsInv.uniq {p l : Int} {m m' : Nat} (h : IsInv p l m) (h' : IsInv p l m') : m = m' := by
  rcases Nat.lt_trichotomy m m' with a | a | a
  · exact absurd h.2.2.1 (h'.2.2.2 m h.1 a)
  · exact a
  · exact absurd h'.2.2.1 (h.2.2.2 m' h'.1 a)
/-- the first figure of a / l, m inverse to l -/
def ff (p a : Int) (m : Nat) : Int := a * (m : Int) % p
theorem ff_bd {p : Int} (hp : isPrime p) (a : Int) (m : Nat) : 0 ≤ ff p a m ∧ ff p a m < p := by
  have := prime_pos hp
  exact ⟨Int.emod_nonneg _ (by omega), Int.emod_lt_of_pos _ (by omega)⟩
theorem ff_dvd {p l a : Int} {m : Nat} (h : IsInv p l m) : ∃ t, a - ff p a m * l = p * t := by
  have h1 := Int.mul_ediv_add_emod (l * (m : Int)) p
  rw [h.2.2.1] at h1
  have h2 := Int.mul_ediv_add_emod (a * (m : Int)) p
  refine ⟨a * (m : Int) / p * l - a * (l * (m : Int) / p), ?_⟩
  show a - a * (m : Int) % p * l = _
  generalize a * (m : Int) / p = q at *
  generalize l * (m : Int) / p = t at *
  have h3 : a * (m : Int) % p = a * (m : Int) - p * q := by omega
  rw [h3, Int.sub_mul, Int.mul_sub, Int.mul_right_comm a, Int.mul_assoc a l, ← h1, Int.mul_add, Int.mul_one, ← Int.mul_assoc p q l, Int.mul_left_comm a p t]
  omega
theorem ff_rest {p l a : Int} {m : Nat} (hp : isPrime p) (h : IsInv p l m) : a = p * ((a - ff p a m * l) / p) + ff p a m * l := by
  have pp := prime_pos hp
  obtain ⟨t, ht⟩ := ff_dvd (a := a) h
  rw [ht, Int.mul_ediv_cancel_left _ (by omega)]
  omega
/-- the first n figures of a / l -/
def figs (p l : Int) (m : Nat) : Nat → Int → List Int
  | 0, _ => []
  | n + 1, a => ff p a m :: figs p l m n ((a - ff p a m * l) / p)
theorem figs_len (p l : Int) (m : Nat) : ∀ (n : Nat) (a : Int), (figs p l m n a).length = n
  | 0, _ => rfl
  | n + 1, a => by rw [figs, List.length_cons, figs_len p l m n]
theorem figs_nums {p : Int} (hp : isPrime p) (l : Int) (m : Nat) : ∀ (n : Nat) (a : Int), nums p (figs p l m n a)
  | 0, _ => fun x hx => by cases hx
  | n + 1, a => fun x hx => by
    rcases List.mem_cons.mp hx with rfl | hx
    · exact ff_bd hp a m
    · exact figs_nums hp l m n _ x hx
/-- the value of a row -/
def val (p : Int) (row : List Int) : Int := row.foldr (fun n v => v * p + n) 0
theorem val_nil (p : Int) : val p [] = 0 := rfl
theorem val_cons (p x : Int) (row : List Int) : val p (x :: row) = val p row * p + x := rfl
theorem val_rev (p : Int) (row : List Int) : row.reverse.foldl (fun v n => v * p + n) 0 = val p row := by rw [List.foldl_reverse]; rfl
theorem val_bd {p : Int} (hp : isPrime p) : ∀ row : List Int, nums p row → 0 ≤ val p row ∧ val p row < p ^ row.length
  | [], _ => by simp [val]
  | x :: row, h => by
    have pp := prime_pos hp
    obtain ⟨h1, h2⟩ := val_bd hp row fun y hy => h y (List.mem_cons_of_mem _ hy)
    have hx := h x List.mem_cons_self
    rw [val_cons, List.length_cons, Int.pow_succ]
    have h3 : 0 ≤ val p row * p := Int.mul_nonneg h1 (by omega)
    have h4 : val p row * p + p ≤ p ^ row.length * p := by
      have : (val p row + 1) * p ≤ p ^ row.length * p := Int.mul_le_mul_of_nonneg_right (by omega) (by omega)
      rw [Int.add_mul, Int.one_mul] at this
      exact this
    omega
/-- the figures of a, as the law reckons them -/
def digs (p : Int) : Nat → Int → List Int
  | 0, _ => []
  | n + 1, a => a % p :: digs p n (a / p)
theorem inv_one {p : Int} (hp : isPrime p) : IsInv p 1 1 := by
  have pp := prime_pos hp
  refine ⟨by omega, by omega, ?_, fun j h1 h2 => by omega⟩
  rw [Int.one_mul]
  exact Int.emod_eq_of_lt (by omega) (by omega)
theorem figs_one {p : Int} (hp : isPrime p) : ∀ (n : Nat) (a : Int), figs p 1 1 n a = digs p n a
  | 0, _ => rfl
  | n + 1, a => by
    have pp := prime_pos hp
    have h1 : ff p a 1 = a % p := by simp [ff]
    have h2 : (a - a % p * 1) / p = a / p := by
      have := Int.mul_ediv_add_emod a p
      rw [Int.mul_one, show a - a % p = p * (a / p) by omega, Int.mul_ediv_cancel_left _ (by omega)]
    rw [figs, digs, h1, h2, figs_one hp n]
theorem digs_len (p : Int) : ∀ (n : Nat) (a : Int), (digs p n a).length = n
  | 0, _ => rfl
  | n + 1, a => by rw [digs, List.length_cons, digs_len p n]
theorem figs_val {p l : Int} {m : Nat} (hp : isPrime p) (h : IsInv p l m) : ∀ (n : Nat) (a : Int), ∃ t, a - val p (figs p l m n a) * l = p ^ n * t
  | 0, a => ⟨a, by simp [figs, val]⟩
  | n + 1, a => by
    obtain ⟨t, ht⟩ := figs_val hp h n ((a - ff p a m * l) / p)
    have hr := ff_rest (a := a) hp h
    refine ⟨t, ?_⟩
    rw [figs, val_cons]
    generalize (a - ff p a m * l) / p = a' at *
    generalize val p (figs p l m n a') = w at *
    generalize ff p a m = d at *
    rw [Int.pow_succ, Int.mul_assoc, Int.mul_comm p t, ← Int.mul_assoc, ← ht, Int.sub_mul, Int.add_mul, hr, Int.mul_right_comm w p l]
    generalize w * l * p = z
    rw [Int.mul_comm p a']
    omega
theorem pow_pos' {p : Int} (hp : isPrime p) (n : Nat) : 0 < p ^ n := Int.pow_pos (by have := prime_pos hp; omega)
theorem digs_val {p : Int} (hp : isPrime p) (n : Nat) (a : Int) : val p (digs p n a) = a % p ^ n := by
  have h := figs_val hp (inv_one hp) n a
  have hn := figs_nums hp 1 1 n a
  rw [figs_one hp] at h hn
  obtain ⟨t, ht⟩ := h
  have hb := val_bd hp _ hn
  rw [digs_len] at hb
  rw [Int.mul_one] at ht
  have : a = val p (digs p n a) + p ^ n * t := by omega
  rw [this, Int.add_mul_emod_self_left]
  rw [← this]
  exact (Int.emod_eq_of_lt hb.1 hb.2).symm
/-- a number below 2 ^ n has a small log -/
theorem log_lt {a : Int} {n : Nat} (h : a.natAbs < 2 ^ n) (hn : 0 < n) : a.natAbs.log2 < n := by
  by_cases h0 : a.natAbs = 0
  · rw [h0]
    simpa using hn
  · exact (Nat.log2_lt h0).mpr h
theorem pow_le' {p : Int} (hp : isPrime p) : ∀ n : Nat, p ^ n ≤ 8 ^ n
  | 0 => by simp
  | n + 1 => by
    have pp := prime_pos hp
    have h1 := pow_le' hp n
    have h2 := pow_pos' hp n
    rw [Int.pow_succ, Int.pow_succ]
    exact Int.mul_le_mul h1 (by omega) (by omega) (by omega)
theorem val_log {p : Int} (hp : isPrime p) {row : List Int} (h : nums p row) {n : Nat} (hl : row.length ≤ n) : (val p row).natAbs.log2 < 3 * n + 1 := by
  obtain ⟨h1, h2⟩ := val_bd hp row h
  apply log_lt _ (by omega)
  have h3 := pow_le' hp row.length
  have h4 : (8 : Int) ^ row.length = ((2 ^ (3 * row.length) : Nat) : Int) := by
    rw [Nat.pow_mul]
    norm_cast
  have h5 : 2 ^ (3 * row.length) ≤ 2 ^ (3 * n + 1) := Nat.pow_le_pow_right (by omega) (by omega)
  omega
end IPL
end
section
set_option linter.all false
set_option maxRecDepth 8000
/-! Fig2: rows of fractions: uniqueness, sums, products. -/
namespace IPL
open IP
open PySem (PyData)
theorem ff_uniq {p l a x : Int} {m : Nat} (h : IsInv p l m) (hx : 0 ≤ x ∧ x < p) {s : Int} (e : a - x * l = p * s) : x = ff p a m := by
  have h1 := Int.mul_ediv_add_emod (l * (m : Int)) p
  rw [h.2.2.1] at h1
  generalize l * (m : Int) / p = q at h1
  have h2 : a * (m : Int) = x + p * (s * (m : Int) + x * q) := by
    have : a = x * l + p * s := by omega
    rw [this, Int.add_mul, Int.mul_assoc x l, ← h1, Int.mul_add, Int.mul_one, Int.mul_add, Int.mul_assoc p s, Int.mul_left_comm x p q]
    omega
  unfold ff
  rw [h2, Int.add_mul_emod_self_left]
  exact (Int.emod_eq_of_lt hx.1 hx.2).symm
theorem figs_uniq {p l : Int} {m : Nat} (hp : isPrime p) (h : IsInv p l m) : ∀ (n : Nat) (w : List Int) (a t : Int), nums p w → w.length = n → a - val p w * l = p ^ n * t → w = figs p l m n a
  | 0, w, a, t, _, hl, _ => by
    rw [List.length_eq_zero_iff.mp hl]
    rfl
  | n + 1, [], a, t, _, hl, _ => by cases hl
  | n + 1, x :: w, a, t, hn, hl, e => by
    have pp := prime_pos hp
    rw [val_cons, Int.pow_succ, Int.mul_assoc, Int.mul_left_comm, Int.add_mul] at e
    have e1 : a - x * l = p * (p ^ n * t + val p w * l) := by
      rw [Int.mul_add, ← e, Int.mul_right_comm (val p w) p l, Int.mul_comm p (val p w * l)]
      omega
    have hx := ff_uniq h (hn x List.mem_cons_self) e1
    rw [figs, ← hx]
    congr 1
    refine figs_uniq hp h n w _ t (fun y hy => hn y (List.mem_cons_of_mem _ hy)) (by simpa using hl) ?_
    rw [e1, Int.mul_ediv_cancel_left _ (by omega)]
    omega
theorem figs_scale {p l k : Int} {m m' : Nat} (hp : isPrime p) (h : IsInv p l m) (h' : IsInv p (l * k) m') (n : Nat) (a : Int) : figs p l m n a = figs p (l * k) m' n (a * k) := by
  obtain ⟨t, ht⟩ := figs_val hp h n a
  refine figs_uniq hp h' n _ _ (t * k) (figs_nums hp _ _ _ _) (figs_len _ _ _ _ _) ?_
  rw [← Int.mul_assoc, ← Int.mul_assoc, ← ht, Int.sub_mul]
theorem digs_mod {p : Int} (hp : isPrime p) (n : Nat) (v : Int) : ∃ t, v - val p (digs p n v) = p ^ n * t := by
  rw [digs_val hp]
  exact ⟨v / p ^ n, by have := Int.mul_ediv_add_emod v (p ^ n); omega⟩
theorem digs_nums {p : Int} (hp : isPrime p) (n : Nat) (v : Int) : nums p (digs p n v) := by
  rw [← figs_one hp]
  exact figs_nums hp _ _ _ _
theorem figs_sum {p l l' : Int} {m m' m2 : Nat} (hp : isPrime p) (h : IsInv p l m) (h' : IsInv p l' m') (h2 : IsInv p (l * l') m2) (n : Nat) (a b : Int) :
    digs p n (val p (figs p l m n a) + val p (figs p l' m' n b)) = figs p (l * l') m2 n (a * l' + b * l) := by
  obtain ⟨t, ht⟩ := figs_val hp h n a
  obtain ⟨t', ht'⟩ := figs_val hp h' n b
  generalize val p (figs p l m n a) = F at *
  generalize val p (figs p l' m' n b) = R at *
  obtain ⟨s, hs⟩ := digs_mod hp n (F + R)
  refine figs_uniq hp h2 n _ _ (t * l' + t' * l + s * (l * l')) (digs_nums hp n _) (digs_len p n _) ?_
  generalize val p (digs p n (F + R)) = w at *
  generalize p ^ n = P at *
  grind
theorem figs_prod {p l l' : Int} {m m' m2 : Nat} (hp : isPrime p) (h : IsInv p l m) (h' : IsInv p l' m') (h2 : IsInv p (l * l') m2) (n : Nat) (a b : Int) :
    digs p n (val p (figs p l m n a) * val p (figs p l' m' n b)) = figs p (l * l') m2 n (a * b) := by
  obtain ⟨t, ht⟩ := figs_val hp h n a
  obtain ⟨t', ht'⟩ := figs_val hp h' n b
  generalize val p (figs p l m n a) = F at *
  generalize val p (figs p l' m' n b) = R at *
  obtain ⟨s, hs⟩ := digs_mod hp n (F * R)
  refine figs_uniq hp h2 n _ _ (t * b + t' * F * l + s * (l * l')) (digs_nums hp n _) (digs_len p n _) ?_
  generalize val p (digs p n (F * R)) = w at *
  generalize p ^ n = P at *
  grind
theorem val_turn {p : Int} : ∀ w : List Int, val p (w.map fun x => p - 1 - x) = p ^ w.length - 1 - val p w
  | [] => by simp [val]
  | x :: w => by
    rw [List.map_cons, val_cons, val_cons, val_turn w, List.length_cons, Int.pow_succ]
    grind
theorem figs_turn {p l : Int} {m : Nat} (hp : isPrime p) (h : IsInv p l m) (n : Nat) (a : Int) : (figs p l m n a).map (fun x => p - 1 - x) = figs p l m n (0 - a - l) := by
  obtain ⟨t, ht⟩ := figs_val hp h n a
  have hn := figs_nums hp l m n a
  have hl := figs_len p l m n a
  refine figs_uniq hp h n _ _ (0 - t - l) ?_ (by rw [List.length_map, hl]) ?_
  · intro y hy
    obtain ⟨x, hx, rfl⟩ := List.mem_map.mp hy
    have := hn x hx
    omega
  · rw [val_turn, hl]
    generalize val p (figs p l m n a) = F at *
    generalize p ^ n = P at *
    grind
theorem mul_bd {a b A B : Int} (h1 : -A ≤ a ∧ a ≤ A) (h2 : -B ≤ b ∧ b ≤ B) : -(A * B) ≤ a * b ∧ a * b ≤ A * B := by
  have h := Nat.mul_le_mul (show a.natAbs ≤ A.toNat by omega) (show b.natAbs ≤ B.toNat by omega)
  rw [← Int.natAbs_mul] at h
  have e : ((A.toNat * B.toNat : Nat) : Int) = A * B := by
    rw [Int.natCast_mul, Int.toNat_of_nonneg (by omega), Int.toNat_of_nonneg (by omega)]
  omega
theorem low_mul {p l l' : Int} (hp : isPrime p) (h : l % p ≠ 0) (h' : l' % p ≠ 0) : l * l' % p ≠ 0 := by
  obtain ⟨m, hm⟩ := inv_ex hp h
  obtain ⟨m', hm'⟩ := inv_ex hp h'
  intro e
  have pp := prime_pos hp
  have e1 := Int.mul_ediv_add_emod (l * l') p
  have e2 := Int.mul_ediv_add_emod (l * (m : Int)) p
  have e3 := Int.mul_ediv_add_emod (l' * (m' : Int)) p
  rw [e] at e1
  rw [hm.2.2.1] at e2
  rw [hm'.2.2.1] at e3
  generalize l * l' / p = q1 at *
  generalize l * (m : Int) / p = q2 at *
  generalize l' * (m' : Int) / p = q3 at *
  have e4 : (1 : Int) = p * (q1 * (m : Int) * (m' : Int) - p * q2 * q3 - q2 - q3) := by grind
  have e5 : p ∣ 1 := ⟨_, e4⟩
  have := Int.le_of_dvd (by omega) e5
  omega
end IPL
end
section
set_option linter.all false
set_option maxRecDepth 8000
/-! Pol: polynomials as lists of numbers. -/
namespace IPL
open IP
open PySem (PyData)
def sg (f : Nat → Int) : Nat → Int
  | 0 => 0
  | n + 1 => sg f n + f n
theorem sg_congr {f g : Nat → Int} : ∀ {n : Nat}, (∀ j, j < n → f j = g j) → sg f n = sg g n
  | 0, _ => rfl
  | n + 1, h => by rw [sg, sg, sg_congr fun j hj => h j (by omega), h n (by omega)]
theorem sg_zero {f : Nat → Int} : ∀ {n : Nat}, (∀ j, j < n → f j = 0) → sg f n = 0
  | 0, _ => rfl
  | n + 1, h => by rw [sg, sg_zero fun j hj => h j (by omega), h n (by omega)]; rfl
theorem sg_more {f : Nat → Int} {n : Nat} : ∀ (m : Nat), (∀ j, n ≤ j → f j = 0) → sg f (n + m) = sg f n
  | 0, _ => rfl
  | m + 1, h => by
    rw [← Nat.add_assoc, sg, sg_more m h, h (n + m) (by omega)]
    omega
theorem sg_front (f : Nat → Int) : ∀ n : Nat, sg f (n + 1) = f 0 + sg (fun j => f (j + 1)) n
  | 0 => by simp [sg]
  | n + 1 => by
    rw [sg, sg_front f n, sg]
    omega
theorem sg_flip (f : Nat → Int) : ∀ n : Nat, sg (fun j => f (n - 1 - j)) n = sg f n
  | 0 => rfl
  | n + 1 => by
    rw [sg_front, sg, ← sg_flip f n]
    have : sg (fun j => f (n + 1 - 1 - (j + 1))) n = sg (fun j => f (n - 1 - j)) n := sg_congr fun j hj => by
      congr 1
      omega
    rw [this]
    simp only [Nat.add_sub_cancel, Nat.sub_zero]
    omega
theorem sum_sg (f : Nat → Int) : ∀ n : Nat, ((List.range n).map f).sum = sg f n
  | 0 => rfl
  | n + 1 => by
    rw [List.range_succ, List.map_append, List.sum_append, sum_sg f n, sg]
    simp
theorem sg_dvd {p : Int} {f g : Nat → Int} : ∀ {n : Nat}, (∀ j, j < n → p ∣ f j - g j) → p ∣ sg f n - sg g n
  | 0, _ => by simp [sg]
  | n + 1, h => by
    have h1 := sg_dvd (n := n) fun j hj => h j (by omega)
    have h2 := h n (by omega)
    rw [sg, sg, show sg f n + f n - (sg g n + g n) = (sg f n - sg g n) + (f n - g n) by omega]
    exact Int.dvd_add h1 h2
def tl (xs : List Int) : Nat → Nat
  | 0 => 0
  | n + 1 => if xs.getD n 0 = 0 then tl xs n else n + 1
theorem tl_le (xs : List Int) : ∀ n, tl xs n ≤ n
  | 0 => Nat.le_refl 0
  | n + 1 => by
    have := tl_le xs n
    rw [tl]
    split <;> omega
theorem tl_zero (xs : List Int) : ∀ n i, tl xs n ≤ i → i < n → xs.getD i 0 = 0
  | 0, i, _, h => by omega
  | n + 1, i, h1, h2 => by
    rw [tl] at h1
    split at h1
    · rename_i h
      by_cases e : i = n
      · rw [e]; exact h
      · exact tl_zero xs n i h1 (by omega)
    · omega
theorem tl_last (xs : List Int) : ∀ n, tl xs n = 0 ∨ xs.getD (tl xs n - 1) 0 ≠ 0
  | 0 => .inl rfl
  | n + 1 => by
    rw [tl]
    split
    · exact tl_last xs n
    · rename_i h
      exact .inr h
def trim (xs : List Int) : List Int := xs.take (tl xs xs.length)
theorem getD_big (xs : List Int) (i : Nat) (h : xs.length ≤ i) : xs.getD i 0 = 0 := by
  rw [List.getD_eq_getElem?_getD, List.getElem?_eq_none h]
  rfl
theorem tl_all (xs : List Int) (i : Nat) (h : tl xs xs.length ≤ i) : xs.getD i 0 = 0 := by
  by_cases h2 : i < xs.length
  · exact tl_zero xs _ i h h2
  · exact getD_big xs i (by omega)
theorem trim_length (xs : List Int) : (trim xs).length = tl xs xs.length := by
  have := tl_le xs xs.length
  rw [trim, List.length_take]
  omega
theorem trim_le (xs : List Int) : (trim xs).length ≤ xs.length := by
  rw [trim_length]
  exact tl_le ..
theorem getD_take (xs : List Int) (n i : Nat) : (xs.take n).getD i 0 = if i < n then xs.getD i 0 else 0 := by
  split
  · rename_i h
    rw [List.getD_eq_getElem?_getD, List.getD_eq_getElem?_getD, List.getElem?_take_of_lt h]
  · rename_i h
    exact getD_big _ _ (by rw [List.length_take]; omega)
theorem trim_getD (xs : List Int) (i : Nat) : (trim xs).getD i 0 = xs.getD i 0 := by
  rw [trim, getD_take]
  split
  · rfl
  · rename_i h
    exact (tl_all xs i (by omega)).symm
theorem list_ext {xs ys : List Int} (hl : xs.length = ys.length) (h : ∀ i, i < xs.length → xs.getD i 0 = ys.getD i 0) : xs = ys := by
  apply List.ext_getElem hl
  intro i h1 h2
  have := h i h1
  simpa [h1, h2] using this
theorem trim_ext {xs ys : List Int} (h : ∀ i, xs.getD i 0 = ys.getD i 0) : trim xs = trim ys := by
  have key : ∀ {xs ys : List Int}, (∀ i, xs.getD i 0 = ys.getD i 0) → tl ys ys.length ≤ tl xs xs.length := by
    intro xs ys h
    rcases tl_last ys ys.length with h1 | h1
    · omega
    · apply Nat.le_of_not_lt
      intro h2
      exact h1 (by rw [← h]; exact tl_all xs _ (by omega))
  apply list_ext
  · rw [trim_length, trim_length]
    exact Nat.le_antisymm (key fun i => (h i).symm) (key h)
  · intro i _
    rw [trim_getD, trim_getD, h]
theorem trim_trim (xs : List Int) : trim (trim xs) = trim xs := trim_ext fun i => trim_getD xs i
theorem trim_nums {p : Int} {xs : List Int} (h : nums p xs) : nums p (trim xs) := fun x hx => h x (List.mem_of_mem_take hx)
def polyL (xs : List Int) : Prop := xs = [] ∨ xs.getD (xs.length - 1) 0 ≠ 0
theorem trim_poly (xs : List Int) : polyL (trim xs) := by
  rcases tl_last xs xs.length with h | h
  · left
    exact List.length_eq_zero_iff.mp (by rw [trim_length, h])
  · right
    rw [trim_length, trim_getD]
    exact h
theorem trim_of_poly {xs : List Int} (h : polyL xs) : trim xs = xs := by
  rcases h with rfl | h
  · rfl
  · cases e : xs.length with
    | zero => rw [List.length_eq_zero_iff.mp e]; rfl
    | succ n =>
      rw [trim, e, tl, if_neg (by rw [e] at h; exact h), ← e, List.take_length]
def ab (a b : List Int) (k i : Nat) : Int := sg (fun j => if j ≤ i then a.getD j 0 * b.getD (i - j) 0 else 0) k
def abIn (a b : List Int) (k t i : Nat) : Int := ab a b k i + (if k ≤ i ∧ i < k + t then a.getD k 0 * b.getD (i - k) 0 else 0)
theorem ab_succ (a b : List Int) (k i : Nat) : ab a b (k + 1) i = ab a b k i + (if k ≤ i then a.getD k 0 * b.getD (i - k) 0 else 0) := rfl
theorem abIn_zero (a b : List Int) (k i : Nat) : abIn a b k 0 i = ab a b k i := by
  unfold abIn
  rw [if_neg (by omega)]
  omega
theorem abIn_all (a b : List Int) (k i : Nat) : abIn a b k b.length i = ab a b (k + 1) i := by
  unfold abIn
  rw [ab_succ]
  by_cases h : k ≤ i
  · by_cases h2 : i < k + b.length
    · rw [if_pos ⟨h, h2⟩, if_pos h]
    · rw [if_neg (by omega), if_pos h, getD_big b _ (by omega), Int.mul_zero]
  · rw [if_neg (by omega), if_neg h]
theorem abIn_here (a b : List Int) (k t : Nat) : abIn a b k t (k + t) = ab a b k (k + t) := by
  unfold abIn
  rw [if_neg (by omega)]
  omega
theorem abIn_next (a b : List Int) (k t : Nat) : abIn a b k (t + 1) (k + t) = ab a b k (k + t) + a.getD k 0 * b.getD t 0 := by
  unfold abIn
  rw [if_pos ⟨by omega, by omega⟩, show k + t - k = t by omega]
theorem abIn_other (a b : List Int) (k t i : Nat) (h : i ≠ k + t) : abIn a b k (t + 1) i = abIn a b k t i := by
  unfold abIn
  by_cases h2 : k ≤ i ∧ i < k + t
  · rw [if_pos h2, if_pos ⟨h2.1, by omega⟩]
  · rw [if_neg h2, if_neg (by omega)]
theorem getD_set (r : List Int) (j i : Nat) (v : Int) (hj : j < r.length) : (r.set j v).getD i 0 = if i = j then v else r.getD i 0 := by
  by_cases h : i = j
  · subst h
    rw [if_pos rfl]
    simp [hj]
  · rw [if_neg h, List.getD_eq_getElem?_getD, List.getD_eq_getElem?_getD, List.getElem?_set_ne (fun e => h e.symm)]
def mul (p : Int) (a b : List Int) : List Int := trim ((List.range (a.length + b.length)).map fun i => ab a b a.length i % p)
theorem mul_of {p : Int} {a b r : List Int} (h : ∀ i, r.getD i 0 = ab a b a.length i % p) : trim r = mul p a b := by
  apply trim_ext
  intro i
  rw [h]
  by_cases hi : i < a.length + b.length
  · simp [hi]
  · rw [getD_big _ i (by simp; omega)]
    unfold ab
    rw [sg_zero]
    · rfl
    · intro j hj
      by_cases hji : j ≤ i
      · rw [if_pos hji, getD_big b _ (by omega), Int.mul_zero]
      · rw [if_neg hji]
theorem getD_zeros (m i : Nat) : (List.replicate m (0 : Int)).getD i 0 = 0 := by
  by_cases h : i < m
  · simp [h]
  · exact getD_big _ _ (by simp; omega)
def cv (a b : List Int) (i : Nat) : Int := sg (fun j => a.getD j 0 * b.getD (i - j) 0) (i + 1)
theorem ab_cv (a b : List Int) (i : Nat) : ab a b a.length i = cv a b i := by
  unfold ab cv
  have h1 := sg_more (f := fun j => if j ≤ i then a.getD j 0 * b.getD (i - j) 0 else 0) (n := a.length) (i + 1) (fun j hj => by
    show (if j ≤ i then a.getD j 0 * b.getD (i - j) 0 else 0) = 0
    rw [getD_big a _ hj, Int.zero_mul]
    split <;> rfl)
  have h2 := sg_more (f := fun j => if j ≤ i then a.getD j 0 * b.getD (i - j) 0 else 0) (n := i + 1) a.length (fun j hj => by
    show (if j ≤ i then a.getD j 0 * b.getD (i - j) 0 else 0) = 0
    rw [if_neg (by omega)])
  rw [← h1, show a.length + (i + 1) = i + 1 + a.length by omega, h2]
  exact sg_congr fun j hj => by rw [if_pos (by omega)]
theorem cv_comm (a b : List Int) (i : Nat) : cv a b i = cv b a i := by
  unfold cv
  rw [← sg_flip]
  exact sg_congr fun j hj => by
    rw [Int.mul_comm, show i + 1 - 1 - j = i - j by omega, show i - (i - j) = j by omega]
theorem cv_ext {a b a' b' : List Int} (ha : ∀ i, a.getD i 0 = a'.getD i 0) (hb : ∀ i, b.getD i 0 = b'.getD i 0) (i : Nat) : cv a b i = cv a' b' i := sg_congr fun j _ => by rw [ha, hb]
theorem mul_getD (p : Int) (a b : List Int) (i : Nat) : (mul p a b).getD i 0 = cv a b i % p := by
  rw [← ab_cv]
  by_cases hi : i < a.length + b.length
  · rw [mul, trim_getD]
    simp [hi]
  · rw [getD_big _ i (by
      have := trim_le ((List.range (a.length + b.length)).map fun i => ab a b a.length i % p)
      rw [mul]
      simp at this
      omega)]
    unfold ab
    rw [sg_zero]
    · rfl
    · intro j hj
      by_cases hji : j ≤ i
      · rw [if_pos hji, getD_big b _ (by omega), Int.mul_zero]
      · rw [if_neg hji]
theorem cv_front (a b : List Int) (i : Nat) : cv a b i = a.getD 0 0 * b.getD i 0 + sg (fun k => a.getD (k + 1) 0 * b.getD (i - (k + 1)) 0) i := by
  unfold cv
  rw [sg_front]
  rfl
theorem emod_of {p x y : Int} (h : p ∣ x - y) : x % p = y % p := Int.emod_eq_emod_iff_emod_sub_eq_zero.mpr (Int.emod_eq_zero_of_dvd h)
theorem emod_small {p x : Int} (h : 0 ≤ x ∧ x < p) : x % p = x := Int.emod_eq_of_lt h.1 h.2
theorem nums_getD {p : Int} {xs : List Int} (hp : 0 < p) (h : nums p xs) (i : Nat) : 0 ≤ xs.getD i 0 ∧ xs.getD i 0 < p := by
  by_cases hi : i < xs.length
  · have f2 : xs[i]? = some xs[i] := List.getElem?_eq_getElem hi
    have f3 : xs.getD i 0 = xs[i] := by simp [f2]
    rw [f3]
    exact h _ (List.getElem_mem hi)
  · rw [getD_big _ _ (by omega)]
    omega
end IPL
end
section
set_option linter.all false
set_option maxRecDepth 8000
/-! Fcs: registers with carry. -/
namespace IPL
open IP
theorem val_app (p : Int) (b : List Int) : ∀ a : List Int, val p (a ++ b) = val p a + p ^ a.length * val p b
  | [] => by simp [val_nil]
  | x :: a => by
    rw [List.cons_append, val_cons, val_app p b a, val_cons, List.length_cons, Int.pow_succ]
    grind
theorem val_one (p x : Int) : val p [x] = x := by simp [val]
theorem val_take_next (p : Int) (a : List Int) {m : Nat} (h : m < a.length) : val p (a.take (m + 1)) = val p (a.take m) + p ^ m * a.getD m 0 := by
  rw [List.take_succ_eq_append_getElem h, val_app, val_one, List.length_take, Nat.min_eq_left (by omega)]
  congr 2
  simp [List.getD, h]
theorem val_drop (p : Int) (a : List Int) (m : Nat) (h : m ≤ a.length) : val p a = val p (a.take m) + p ^ m * val p (a.drop m) := by
  have := val_app p (a.drop m) (a.take m)
  rw [List.take_append_drop, List.length_take, Nat.min_eq_left h] at this
  exact this
def ctot (ts row : List Int) (z : Int) : Int := z + ((List.range ts.length).map fun k => ts.getD k 0 * row.getD (row.length - 1 - k) 0).sum
def crun (p : Int) (ts : List Int) : Nat → List Int → Int → List Int
  | 0, row, _ => row
  | k + 1, row, z => crun p ts k (row ++ [ctot ts row z % p]) (ctot ts row z / p)
theorem crun_len (p : Int) (ts : List Int) : ∀ (k : Nat) (row : List Int) (z : Int), (crun p ts k row z).length = row.length + k
  | 0, _, _ => rfl
  | k + 1, row, z => by rw [crun, crun_len p ts k]; simp; omega
theorem crun_nums {p : Int} (h0 : 0 < p) (ts : List Int) : ∀ (k : Nat) (row : List Int) (z : Int), nums p row → nums p (crun p ts k row z)
  | 0, _, _, h => h
  | k + 1, row, z, h => crun_nums h0 ts k _ _ fun x hx => by
    rcases List.mem_append.mp hx with hx | hx
    · exact h x hx
    · rw [List.mem_singleton.mp hx]
      exact ⟨Int.emod_nonneg _ (by omega), Int.emod_lt_of_pos _ h0⟩
/-- what is above, told by the numbers so far and the carry -/
def abv (p : Int) (ts row : List Int) (z : Int) : Int := -val p row + sg (fun i => ts.getD i 0 * p ^ (i + 1) * val p (row.take (row.length - 1 - i))) ts.length - p ^ row.length * z
theorem sg_scaleR (f : Nat → Int) (c : Int) : ∀ n, sg (fun j => f j * c) n = sg f n * c
  | 0 => by simp [sg]
  | n + 1 => by
    have := sg_scaleR f c n
    simp only [sg] at *
    rw [this, Int.add_mul]
theorem sg_add2 (f g : Nat → Int) : ∀ n, sg (fun j => f j + g j) n = sg f n + sg g n
  | 0 => by simp [sg]
  | n + 1 => by
    have := sg_add2 f g n
    simp only [sg] at *
    omega
theorem abv_step {p : Int} (h0 : 0 < p) {ts row : List Int} (hl : ts.length ≤ row.length) (z : Int) : abv p ts (row ++ [ctot ts row z % p]) (ctot ts row z / p) = abv p ts row z := by
  have hd := Int.mul_ediv_add_emod (ctot ts row z) p
  unfold abv
  rw [val_app, val_one, List.length_append, List.length_singleton, Int.pow_succ]
  have e1 : sg (fun i => ts.getD i 0 * p ^ (i + 1) * val p ((row ++ [ctot ts row z % p]).take (row.length + 1 - 1 - i))) ts.length = sg (fun i => ts.getD i 0 * p ^ (i + 1) * val p (row.take (row.length - 1 - i)) + ts.getD i 0 * row.getD (row.length - 1 - i) 0 * p ^ row.length) ts.length := sg_congr fun i hi => by
    have e : (row ++ [ctot ts row z % p]).take (row.length + 1 - 1 - i) = row.take (row.length - 1 - i + 1) := by
      rw [List.take_append_of_le_length (by omega)]
      congr 1
      omega
    show ts.getD i 0 * p ^ (i + 1) * val p ((row ++ [ctot ts row z % p]).take (row.length + 1 - 1 - i)) = _
    rw [e, val_take_next p row (by omega)]
    have ep : p ^ row.length = p ^ (i + 1) * p ^ (row.length - 1 - i) := by rw [← Int.pow_add, show i + 1 + (row.length - 1 - i) = row.length by omega]
    rw [ep]
    grind
  rw [e1, sg_add2, sg_scaleR]
  unfold ctot at hd ⊢
  rw [sum_sg] at hd ⊢
  generalize sg (fun i => ts.getD i 0 * p ^ (i + 1) * val p (row.take (row.length - 1 - i))) ts.length = S at *
  generalize sg (fun k => ts.getD k 0 * row.getD (row.length - 1 - k) 0) ts.length = U at *
  generalize p ^ row.length = P at *
  generalize (z + U) / p = D at *
  generalize (z + U) % p = M at *
  grind
theorem abv_crun {p : Int} (h0 : 0 < p) {ts : List Int} : ∀ (k : Nat) (row : List Int) (z : Int), ts.length ≤ row.length → ∃ z', abv p ts (crun p ts k row z) z' = abv p ts row z
  | 0, row, z, _ => ⟨z, rfl⟩
  | k + 1, row, z, h => by
    obtain ⟨z', e⟩ := abv_crun h0 (ts := ts) k (row ++ [ctot ts row z % p]) (ctot ts row z / p) (by simp; omega)
    exact ⟨z', by rw [crun, e, abv_step h0 h]⟩
theorem val_sg (p : Int) : ∀ a : List Int, val p a * p = sg (fun i => a.getD i 0 * p ^ (i + 1)) a.length
  | [] => by simp [val_nil, sg]
  | x :: a => by
    have ih := val_sg p a
    rw [val_cons, List.length_cons, sg_front]
    have e : sg (fun j => (x :: a).getD (j + 1) 0 * p ^ (j + 1 + 1)) a.length = sg (fun i => a.getD i 0 * p ^ (i + 1)) a.length * p := by
      rw [← sg_scaleR]
      exact sg_congr fun i _ => by
        show a.getD i 0 * p ^ (i + 1 + 1) = _
        rw [Int.pow_succ p (i + 1), Int.mul_assoc]
    rw [e, ← ih]
    show (val p a * p + x) * p = x * p ^ (0 + 1) + val p a * p * p
    rw [Int.pow_succ, Int.pow_zero]
    grind
/-- the row's value, times low, is above, up to a multiple of the power -/
theorem abv_dvd {p : Int} {ts row : List Int} (hl : ts.length ≤ row.length) (z : Int) : ∃ t, (val p ts * p - 1) * val p row - abv p ts row z = p ^ row.length * t := by
  unfold abv
  rw [val_sg]
  have key : ∀ m, m ≤ ts.length → ∃ t, sg (fun i => ts.getD i 0 * p ^ (i + 1)) m * val p row - sg (fun i => ts.getD i 0 * p ^ (i + 1) * val p (row.take (row.length - 1 - i))) m = p ^ row.length * t := by
    intro m
    induction m with
    | zero => intro _; exact ⟨0, by simp [sg]⟩
    | succ m ih =>
      intro h
      obtain ⟨t, e⟩ := ih (by omega)
      have hd := val_drop p row (row.length - 1 - m) (by omega)
      have ep : p ^ row.length = p ^ (m + 1) * p ^ (row.length - 1 - m) := by rw [← Int.pow_add, show m + 1 + (row.length - 1 - m) = row.length by omega]
      simp only [sg]
      exact ⟨t + ts.getD m 0 * val p (row.drop (row.length - 1 - m)), by grind⟩
  obtain ⟨t, e⟩ := key ts.length (Nat.le_refl _)
  exact ⟨t + z, by grind⟩
theorem crun_dvd {p : Int} (h0 : 0 < p) {ts st : List Int} (hl : st.length = ts.length) (z : Int) (k : Nat) : ∃ t, (val p ts * p - 1) * val p (crun p ts k st z) - abv p ts st z = p ^ (crun p ts k st z).length * t := by
  obtain ⟨z', e⟩ := abv_crun h0 (ts := ts) k st z (by omega)
  rw [← e]
  exact abv_dvd (by rw [crun_len]; omega) z'
theorem crun_take_dvd {p : Int} (h0 : 0 < p) {ts st : List Int} (hl : st.length = ts.length) (z : Int) (k c : Nat) (hc : c ≤ (crun p ts k st z).length) : ∃ t, (val p ts * p - 1) * val p ((crun p ts k st z).take c) - abv p ts st z = p ^ c * t := by
  obtain ⟨t, e⟩ := crun_dvd h0 hl z k
  have hd := val_drop p (crun p ts k st z) c hc
  have ep : p ^ (crun p ts k st z).length = p ^ c * p ^ ((crun p ts k st z).length - c) := by rw [← Int.pow_add, show c + ((crun p ts k st z).length - c) = (crun p ts k st z).length by omega]
  exact ⟨p ^ ((crun p ts k st z).length - c) * t - (val p ts * p - 1) * val p ((crun p ts k st z).drop c), by grind⟩
/-- a common divisor of above and low is left out -/
theorem pow_less {p v g : Int} {Q : Int} (h : g * Q = v * p - 1) (n : Nat) : ∃ s, p ^ n * v ^ n = 1 + g * s := by
  induction n with
  | zero => exact ⟨0, by simp⟩
  | succ n ih =>
    obtain ⟨s, e⟩ := ih
    rw [Int.pow_succ, Int.pow_succ]
    exact ⟨Q + s + g * s * Q, by grind⟩
theorem low_out {p v g Q A V : Int} (h : g * Q = v * p - 1) {n : Nat} (h2 : ∃ t, (v * p - 1) * V - g * A = p ^ n * t) : ∃ t, Q * V - A = p ^ n * t := by
  obtain ⟨s, e⟩ := pow_less h n
  obtain ⟨t, e2⟩ := h2
  exact ⟨v ^ n * (Q * V - A) - t * s, by grind⟩
end IPL
namespace IPL
open IP
/-- the carry behind so many steps -/
def crz (p : Int) (ts : List Int) : Nat → List Int → Int → Int
  | 0, _, z => z
  | k + 1, row, z => crz p ts k (row ++ [ctot ts row z % p]) (ctot ts row z / p)
theorem crun_snoc (p : Int) (ts : List Int) : ∀ (k : Nat) (row : List Int) (z : Int), crun p ts (k + 1) row z = crun p ts k row z ++ [ctot ts (crun p ts k row z) (crz p ts k row z) % p] ∧ crz p ts (k + 1) row z = ctot ts (crun p ts k row z) (crz p ts k row z) / p
  | 0, _, _ => ⟨rfl, rfl⟩
  | k + 1, row, z => by
    have ih := crun_snoc p ts k (row ++ [ctot ts row z % p]) (ctot ts row z / p)
    exact ih
/-- without common divisors -/
theorem gcd_out (a : Int) {l : Int} (hl : 0 < l) : ∃ a' l' : Int, a / ((Nat.gcd a.natAbs l.natAbs : Nat) : Int) = a' ∧ l / ((Nat.gcd a.natAbs l.natAbs : Nat) : Int) = l' ∧ ((Nat.gcd a.natAbs l.natAbs : Nat) : Int) * a' = a ∧ ((Nat.gcd a.natAbs l.natAbs : Nat) : Int) * l' = l ∧ Nat.gcd a'.natAbs l'.natAbs = 1 ∧ 1 ≤ l' ∧ l' ≤ l ∧ a'.natAbs ≤ a.natAbs := by
  have h0 : 0 < Nat.gcd a.natAbs l.natAbs := Nat.gcd_pos_of_pos_right _ (by omega)
  obtain ⟨u, hu⟩ := Int.ofNat_dvd_left.mpr (Nat.gcd_dvd_left a.natAbs l.natAbs)
  obtain ⟨v, hv⟩ := Int.ofNat_dvd_left.mpr (Nat.gcd_dvd_right a.natAbs l.natAbs)
  generalize hg : Nat.gcd a.natAbs l.natAbs = g at *
  have g0 : (0 : Int) < (g : Int) := Int.natCast_pos.mpr h0
  refine ⟨u, v, by rw [hu, Int.mul_ediv_cancel_left _ (by omega)], by rw [hv, Int.mul_ediv_cancel_left _ (by omega)], hu.symm, hv.symm, ?_, ?_, ?_, ?_⟩
  · have e1 : a.natAbs = g * u.natAbs := by rw [hu, Int.natAbs_mul, Int.natAbs_natCast]
    have e2 : l.natAbs = g * v.natAbs := by rw [hv, Int.natAbs_mul, Int.natAbs_natCast]
    rw [e1, e2, Nat.gcd_mul_left] at hg
    exact Nat.eq_of_mul_eq_mul_left h0 (by omega)
  · have : 0 < v := by
      rcases Int.lt_or_le 0 v with h | h
      · exact h
      · have := Int.mul_nonneg (show (0 : Int) ≤ (g : Int) by omega) (show 0 ≤ -v by omega)
        rw [Int.mul_neg] at this
        omega
    omega
  · have : 0 < v := by
      rcases Int.lt_or_le 0 v with h | h
      · exact h
      · have := Int.mul_nonneg (show (0 : Int) ≤ (g : Int) by omega) (show 0 ≤ -v by omega)
        rw [Int.mul_neg] at this
        omega
    have := Int.mul_le_mul_of_nonneg_right (show (1 : Int) ≤ (g : Int) by omega) (show 0 ≤ v by omega)
    omega
  · have e1 : a.natAbs = g * u.natAbs := by rw [hu, Int.natAbs_mul, Int.natAbs_natCast]
    rw [e1]
    exact Nat.le_mul_of_pos_left _ h0
end IPL
end
section
set_option linter.all false
/-! Eucl: Euclid's way with a bounded number of turns. -/
namespace IPL
def eucl : Nat → Nat → Nat → Option Nat
  | 0, _, _ => none
  | n + 1, a, b => if b = 0 then some a else eucl n b (a % b)
theorem mod_half {b r : Nat} (h0 : 0 < r) (h : r < b) : 2 * (b % r) < b := by
  rcases Nat.lt_or_ge b (2 * r) with h2 | h2
  · rw [Nat.mod_eq_sub_mod (by omega), Nat.mod_eq_of_lt (by omega)]
    omega
  · have := Nat.mod_lt b h0
    omega
theorem eucl_ok : ∀ (k n a b : Nat), b < 2 ^ k → 2 * k + 1 ≤ n → eucl n a b = some (Nat.gcd a b)
  | 0, n, a, b, h, hn => by
    obtain ⟨m, rfl⟩ : ∃ m, n = m + 1 := ⟨n - 1, by omega⟩
    have : b = 0 := by simpa using h
    subst this
    simp [eucl]
  | k + 1, n, a, b, h, hn => by
    obtain ⟨m, rfl⟩ : ∃ m, n = m + 2 := ⟨n - 2, by omega⟩
    by_cases hb : b = 0
    · subst hb
      simp [eucl]
    · rw [eucl, if_neg hb]
      have e : Nat.gcd a b = Nat.gcd b (a % b) := by
        rw [Nat.gcd_comm a b, Nat.gcd_rec, Nat.gcd_comm]
      rw [e]
      by_cases hr : a % b = 0
      · rw [eucl, if_pos hr, hr, Nat.gcd_zero_right]
      · have hlt := Nat.mod_lt a (show 0 < b by omega)
        rw [eucl, if_neg hr]
        have e2 : Nat.gcd b (a % b) = Nat.gcd (a % b) (b % (a % b)) := by
          rw [Nat.gcd_comm b, Nat.gcd_rec, Nat.gcd_comm]
        rw [e2]
        have := mod_half (b := b) (r := a % b) (by omega) hlt
        exact eucl_ok k m _ _ (by rw [Nat.pow_succ] at h; omega) (by omega)
end IPL
end
section
set_option linter.all false
set_option maxRecDepth 8000
/-! Big: bounds by powers of 2. -/
namespace IPL
open IP
/-- |x| < 2 ^ n -/
def ub (n : Nat) (x : Int) : Prop := x.natAbs < 2 ^ n
theorem ub.log {n : Nat} {x : Int} (h : ub n x) (hn : 0 < n) : x.natAbs.log2 < n := log_lt h hn
theorem ub.mono {n m : Nat} {x : Int} (h : ub n x) (hm : n ≤ m) : ub m x := Nat.lt_of_lt_of_le h (Nat.pow_le_pow_right (by omega) hm)
theorem ub.mul {n m : Nat} {x y : Int} (h : ub n x) (h' : ub m y) : ub (n + m) (x * y) := by
  unfold ub at *
  rw [Int.natAbs_mul, Nat.pow_add]
  exact Nat.mul_lt_mul'' h h'
theorem ub.add {n : Nat} {x y : Int} (h : ub n x) (h' : ub n y) : ub (n + 1) (x + y) := by
  unfold ub at *
  rw [Nat.pow_succ]
  have := Int.natAbs_add_le x y
  omega
theorem ub.neg {n : Nat} {x : Int} (h : ub n x) : ub n (-x) := by
  unfold ub at *
  rwa [Int.natAbs_neg]
theorem ub.sub {n : Nat} {x y : Int} (h : ub n x) (h' : ub n y) : ub (n + 1) (x - y) := by
  rw [Int.sub_eq_add_neg]
  exact h.add h'.neg
theorem ub_of {n : Nat} {x : Int} (h : -(2 ^ n) < x) (h2 : x < 2 ^ n) : ub n x := by
  unfold ub
  have : ((2 ^ n : Nat) : Int) = (2 : Int) ^ n := by rw [Int.natCast_pow]; rfl
  omega
theorem ub_small {x : Int} (h : -64 < x) (h2 : x < 64) : ub 6 x := by
  unfold ub
  omega
theorem ub_div {n : Nat} {x g : Int} (h : ub n x) (hg : 0 < g) : ub n (x / g) ∨ True := .inr trivial
theorem pow8 (k : Nat) : (8 : Int) ^ k = 2 ^ (3 * k) := by
  rw [Int.pow_mul]
  rfl
theorem ub_pow {p : Int} (hp : isPrime p) (k : Nat) : ub (3 * k + 1) (p ^ k) := by
  have h1 := pow_le' hp k
  have h2 := pow_pos' hp k
  rw [pow8] at h1
  refine ub_of ?_ ?_
  · have : (0 : Int) < 2 ^ (3 * k + 1) := Int.pow_pos (by decide)
    omega
  · rw [Int.pow_succ]
    have : (0 : Int) < 2 ^ (3 * k) := Int.pow_pos (by decide)
    omega
theorem ub_val {p : Int} (hp : isPrime p) {row : List Int} (h : nums p row) {n : Nat} (hl : row.length ≤ n) : ub (3 * n + 1) (val p row) := by
  have h1 := val_bd hp row h
  have h2 := ub_pow hp row.length
  have : ub (3 * row.length + 1) (val p row) := by
    unfold ub at *
    omega
  exact this.mono (by omega)
theorem ub_nat {n : Nat} {x : Nat} (h : x < 2 ^ n) : ub n (x : Int) := by
  unfold ub
  simpa using h
theorem ub.le {n : Nat} {x y : Int} (h : ub n y) (h0 : 0 ≤ x) (h1 : x ≤ y) : ub n x := by
  unfold ub at *
  omega
theorem ub.dvd {n : Nat} {x y : Int} (h : ub n y) (hy : y ≠ 0) (hd : x ∣ y) : ub n x := by
  unfold ub at *
  have := Int.natAbs_dvd_natAbs.mpr hd
  exact Nat.lt_of_le_of_lt (Nat.le_of_dvd (by omega) this) h
end IPL
end
section
set_option linter.all false
set_option maxRecDepth 8000
/-! Lat: pairs of integers by the greater of their numbers: the nearest multiple, reduced pairs (C. Gauss). -/
namespace IPL
def sz (p : Int × Int) : Int := max (p.1.natAbs : Int) (p.2.natAbs : Int)
def sbm (p s : Int × Int) (m : Int) : Int × Int := (p.1 - m * s.1, p.2 - m * s.2)
theorem sz_two (p : Int × Int) : 2 * sz p = ((p.1 + p.2).natAbs : Int) + ((p.1 - p.2).natAbs : Int) := by
  unfold sz
  omega
theorem sz_nn (p : Int × Int) : 0 ≤ sz p := by
  unfold sz
  omega
theorem sz_zero {p : Int × Int} (h : sz p = 0) : p = (0, 0) := by
  unfold sz at h
  have h1 : p.1 = 0 := by omega
  have h2 : p.2 = 0 := by omega
  exact Prod.ext h1 h2
/-- |P - m s| by how far m is from the quotient -/
theorem abs_lin {P s : Int} (hs : s ≠ 0) : ∃ a r : Int, 0 < a ∧ 0 ≤ r ∧ r < a ∧ a = (s.natAbs : Int) ∧ ∀ m, ((P - m * s).natAbs : Int) = if P.fdiv s + 1 ≤ m then (m - P.fdiv s) * a - r else (P.fdiv s - m) * a + r := by
  have e : P.fdiv s * s + P.fmod s = P := by
    have := Int.mul_fdiv_add_fmod P s
    rw [Int.mul_comm] at this
    exact this
  obtain ⟨c, hc⟩ : ∃ c, c = P.fdiv s := ⟨_, rfl⟩
  obtain ⟨r, hr⟩ : ∃ r, r = P.fmod s := ⟨_, rfl⟩
  rw [← hc, ← hr] at e
  rw [← hc]
  have hb : (0 < s ∧ 0 ≤ r ∧ r < s) ∨ (s < 0 ∧ r ≤ 0 ∧ s < r) := by
    rcases Int.lt_or_gt_of_ne hs with h | h
    · have f1 := Int.fmod_nonneg_of_pos (-P) (show 0 < -s by omega)
      have f2 := Int.fmod_lt_of_pos (-P) (show 0 < -s by omega)
      rw [Int.neg_fmod_neg] at f1 f2
      exact .inr ⟨h, by omega, by omega⟩
    · refine .inl ⟨h, ?_, ?_⟩
      · rw [hr]
        exact Int.fmod_nonneg_of_pos P h
      · rw [hr]
        exact Int.fmod_lt_of_pos P h
  have em : ∀ m, P - m * s = (c - m) * s + r := fun m => by
    rw [Int.sub_mul]
    omega
  rcases hb with ⟨h1, h2, h3⟩ | ⟨h1, h2, h3⟩
  · refine ⟨s, r, h1, h2, h3, by omega, fun m => ?_⟩
    rw [em]
    split
    · rename_i hm
      have : (c - m) * s ≤ (-1) * s := Int.mul_le_mul_of_nonneg_right (by omega) (by omega)
      have e2 : (m - c) * s = -((c - m) * s) := by
        rw [← Int.neg_mul]
        congr 1
        omega
      rw [e2]
      generalize (c - m) * s = Z at *
      omega
    · rename_i hm
      have : 0 ≤ (c - m) * s := Int.mul_nonneg (by omega) (by omega)
      generalize (c - m) * s = Z at *
      omega
  · refine ⟨-s, -r, by omega, by omega, by omega, by omega, fun m => ?_⟩
    rw [em]
    split
    · rename_i hm
      have : (c - m) * (-s) ≤ (-1) * (-s) := Int.mul_le_mul_of_nonneg_right (by omega) (by omega)
      have e2 : (m - c) * (-s) = -((c - m) * (-s)) := by
        rw [← Int.neg_mul]
        congr 1
        omega
      have e3 : (c - m) * s = -((c - m) * (-s)) := by rw [Int.mul_neg, Int.neg_neg]
      rw [e2, e3]
      generalize (c - m) * (-s) = Z at *
      omega
    · rename_i hm
      have : 0 ≤ (c - m) * (-s) := Int.mul_nonneg (by omega) (by omega)
      have e3 : (c - m) * s = -((c - m) * (-s)) := by rw [Int.mul_neg, Int.neg_neg]
      rw [e3]
      generalize (c - m) * (-s) = Z at *
      omega
/-- one step from the quotient outwards -/
theorem abs_right {P s m n : Int} (hs : s ≠ 0) (h1 : P.fdiv s + 1 ≤ n) (h2 : n ≤ m) : ((P - n * s).natAbs : Int) ≤ ((P - m * s).natAbs : Int) := by
  obtain ⟨a, r, ha, hr, hra, _, e⟩ := abs_lin (P := P) hs
  rw [e n, e m, if_pos h1, if_pos (by omega)]
  have := Int.mul_le_mul_of_nonneg_right (show n - P.fdiv s ≤ m - P.fdiv s by omega) (show 0 ≤ a by omega)
  omega
theorem abs_left {P s m n : Int} (hs : s ≠ 0) (h1 : n ≤ P.fdiv s) (h2 : m ≤ n) : ((P - n * s).natAbs : Int) ≤ ((P - m * s).natAbs : Int) := by
  obtain ⟨a, r, ha, hr, hra, _, e⟩ := abs_lin (P := P) hs
  rw [e n, e m, if_neg (by omega), if_neg (by omega)]
  have := Int.mul_le_mul_of_nonneg_right (show P.fdiv s - n ≤ P.fdiv s - m by omega) (show 0 ≤ a by omega)
  omega
/-- two lines with their quotients in order -/
theorem two_lines {P s Q t : Int} (hs : s ≠ 0) (ht : t ≠ 0) (hcd : P.fdiv s ≤ Q.fdiv t) (m : Int) : ∃ k, (k = P.fdiv s ∨ k = P.fdiv s + 1 ∨ k = Q.fdiv t ∨ k = Q.fdiv t + 1) ∧
    ((P - k * s).natAbs : Int) + ((Q - k * t).natAbs : Int) ≤ ((P - m * s).natAbs : Int) + ((Q - m * t).natAbs : Int) := by
  by_cases h1 : Q.fdiv t + 1 ≤ m
  · refine ⟨Q.fdiv t + 1, by simp, ?_⟩
    have a1 := abs_right (P := P) hs (n := Q.fdiv t + 1) (by omega) h1
    have a2 := abs_right (P := Q) ht (Int.le_refl _) h1
    omega
  · by_cases h2 : m ≤ P.fdiv s
    · refine ⟨P.fdiv s, by simp, ?_⟩
      have a1 := abs_left (P := P) hs (Int.le_refl _) h2
      have a2 := abs_left (P := Q) ht (n := P.fdiv s) hcd h2
      omega
    · obtain ⟨a, r, ha, hr, hra, _, e⟩ := abs_lin (P := P) hs
      obtain ⟨b, q, hb, hq, hqb, _, f⟩ := abs_lin (P := Q) ht
      by_cases hab : b ≤ a
      · refine ⟨P.fdiv s + 1, by simp, ?_⟩
        rw [e (P.fdiv s + 1), e m, f (P.fdiv s + 1), f m, if_pos (by omega), if_neg (by omega), if_pos (by omega), if_neg (by omega)]
        generalize P.fdiv s = c at *
        generalize Q.fdiv t = d at *
        have := Int.mul_le_mul_of_nonneg_left hab (show 0 ≤ m - (c + 1) by omega)
        have x1 : (m - c) * a = (m - (c + 1)) * a + a := by
          rw [show m - c = (m - (c + 1)) + 1 by omega, Int.add_mul, Int.one_mul]
        have x2 : (d - (c + 1)) * b = (d - m) * b + (m - (c + 1)) * b := by
          rw [← Int.add_mul]
          congr 1
          omega
        have x3 : (c + 1 - c) * a = a := by rw [show c + 1 - c = 1 by omega, Int.one_mul]
        omega
      · refine ⟨Q.fdiv t, by simp, ?_⟩
        rw [e (Q.fdiv t), e m, f (Q.fdiv t), f m, if_pos (by omega), if_neg (by omega), if_pos (by omega), if_neg (by omega)]
        generalize P.fdiv s = c at *
        generalize Q.fdiv t = d at *
        have := Int.mul_le_mul_of_nonneg_left (show a ≤ b by omega) (show 0 ≤ d - m by omega)
        have x1 : (d - c) * a = (m - c) * a + (d - m) * a := by
          rw [← Int.add_mul]
          congr 1
          omega
        have x3 : (d - d) * b = 0 := by rw [Int.sub_self, Int.zero_mul]
        omega
/-- the multiples that are tried -/
def brs (p s : Int × Int) : List Int := ([(p.1 - p.2, s.1 - s.2), (p.1 + p.2, s.1 + s.2)].filter fun z => z.2 != 0).map fun z => z.1.fdiv z.2
def tries (p s : Int × Int) : List Int := brs p s ++ (brs p s).map (· + 1)
theorem near_ok (p : Int × Int) {s : Int × Int} (hs : s ≠ (0, 0)) (m : Int) : ∃ k ∈ tries p s, sz (sbm p s k) ≤ sz (sbm p s m) := by
  have key : ∀ k, ((p.1 + p.2 - k * (s.1 + s.2)).natAbs : Int) + ((p.1 - p.2 - k * (s.1 - s.2)).natAbs : Int) ≤ ((p.1 + p.2 - m * (s.1 + s.2)).natAbs : Int) + ((p.1 - p.2 - m * (s.1 - s.2)).natAbs : Int) → sz (sbm p s k) ≤ sz (sbm p s m) := by
    intro k h
    have e1 := sz_two (sbm p s k)
    have e2 := sz_two (sbm p s m)
    have g : ∀ k : Int, (sbm p s k).1 + (sbm p s k).2 = p.1 + p.2 - k * (s.1 + s.2) ∧ (sbm p s k).1 - (sbm p s k).2 = p.1 - p.2 - k * (s.1 - s.2) := fun k => by
      unfold sbm
      rw [Int.mul_add, Int.mul_sub]
      constructor <;> dsimp only <;> omega
    rw [(g k).1, (g k).2] at e1
    rw [(g m).1, (g m).2] at e2
    omega
  by_cases h1 : s.1 - s.2 = 0
  · have h2 : s.1 + s.2 ≠ 0 := fun h => hs (Prod.ext (show s.1 = 0 by omega) (show s.2 = 0 by omega))
    have et : tries p s = [(p.1 + p.2).fdiv (s.1 + s.2), (p.1 + p.2).fdiv (s.1 + s.2) + 1] := by
      unfold tries brs
      simp [h1, h2]
    rw [et]
    by_cases c : (p.1 + p.2).fdiv (s.1 + s.2) + 1 ≤ m
    · refine ⟨_, by simp, key ((p.1 + p.2).fdiv (s.1 + s.2) + 1) ?_⟩
      have := abs_right (P := p.1 + p.2) h2 (Int.le_refl _) c
      rw [h1, Int.mul_zero, Int.mul_zero]
      omega
    · refine ⟨_, List.mem_cons_self, key ((p.1 + p.2).fdiv (s.1 + s.2)) ?_⟩
      have := abs_left (P := p.1 + p.2) h2 (Int.le_refl _) (show m ≤ _ by omega)
      rw [h1, Int.mul_zero, Int.mul_zero]
      omega
  · by_cases h2 : s.1 + s.2 = 0
    · have et : tries p s = [(p.1 - p.2).fdiv (s.1 - s.2), (p.1 - p.2).fdiv (s.1 - s.2) + 1] := by
        unfold tries brs
        simp [h1, h2]
      rw [et]
      by_cases c : (p.1 - p.2).fdiv (s.1 - s.2) + 1 ≤ m
      · refine ⟨_, by simp, key ((p.1 - p.2).fdiv (s.1 - s.2) + 1) ?_⟩
        have := abs_right (P := p.1 - p.2) h1 (Int.le_refl _) c
        rw [h2, Int.mul_zero, Int.mul_zero]
        omega
      · refine ⟨_, List.mem_cons_self, key ((p.1 - p.2).fdiv (s.1 - s.2)) ?_⟩
        have := abs_left (P := p.1 - p.2) h1 (Int.le_refl _) (show m ≤ _ by omega)
        rw [h2, Int.mul_zero, Int.mul_zero]
        omega
    · have et : tries p s = [(p.1 - p.2).fdiv (s.1 - s.2), (p.1 + p.2).fdiv (s.1 + s.2), (p.1 - p.2).fdiv (s.1 - s.2) + 1, (p.1 + p.2).fdiv (s.1 + s.2) + 1] := by
        unfold tries brs
        simp [h1, h2]
      rw [et]
      by_cases c : (p.1 + p.2).fdiv (s.1 + s.2) ≤ (p.1 - p.2).fdiv (s.1 - s.2)
      · obtain ⟨k, hk, e⟩ := two_lines h2 h1 c m
        refine ⟨k, ?_, key k e⟩
        rcases hk with rfl | rfl | rfl | rfl <;> simp
      · obtain ⟨k, hk, e⟩ := two_lines (P := p.1 - p.2) (Q := p.1 + p.2) h1 h2 (by omega) m
        refine ⟨k, ?_, key k (by omega)⟩
        rcases hk with rfl | rfl | rfl | rfl <;> simp
end IPL
end
section
set_option linter.all false
set_option maxRecDepth 8000
/-! Lat2: reduced pairs of a lattice of fractions are its least. -/
namespace IPL
theorem sz_neg (p : Int × Int) : sz (-p.1, -p.2) = sz p := by
  unfold sz
  simp only [Int.natAbs_neg]
theorem abs_mul_le (a b : Int) {B : Int} (h : (b.natAbs : Int) ≤ B) : ((a * b).natAbs : Int) ≤ (a.natAbs : Int) * B := by
  rw [Int.natAbs_mul, Int.natCast_mul]
  exact Int.mul_le_mul_of_nonneg_left h (Int.natCast_nonneg _)
theorem sz_tri (n r : Int) (hn : 0 ≤ n) (x u : Int × Int) : n * sz x - (r.natAbs : Int) * sz u ≤ sz (n * x.1 + r * u.1, n * x.2 + r * u.2) := by
  have h1 : ((r * u.1).natAbs : Int) ≤ (r.natAbs : Int) * sz u := abs_mul_le r u.1 (by unfold sz; omega)
  have h2 : ((r * u.2).natAbs : Int) ≤ (r.natAbs : Int) * sz u := abs_mul_le r u.2 (by unfold sz; omega)
  have m1 : ((n * x.1).natAbs : Int) = n * (x.1.natAbs : Int) := by
    rw [Int.natAbs_mul, Int.natCast_mul]
    congr 1
    omega
  have m2 : ((n * x.2).natAbs : Int) = n * (x.2.natAbs : Int) := by
    rw [Int.natAbs_mul, Int.natCast_mul]
    congr 1
    omega
  have hz : sz x = (x.1.natAbs : Int) ∨ sz x = (x.2.natAbs : Int) := by
    unfold sz
    omega
  generalize (r.natAbs : Int) * sz u = R at *
  show _ ≤ max ((n * x.1 + r * u.1).natAbs : Int) ((n * x.2 + r * u.2).natAbs : Int)
  rcases hz with e | e <;> rw [e]
  · rw [← m1]
    omega
  · rw [← m2]
    omega
structure Red (u v : Int × Int) : Prop where
  le : sz u ≤ sz v
  nz : u ≠ (0, 0)
  near : ∀ m, sz v ≤ sz (sbm v u m)
theorem red_two {u v : Int × Int} (R : Red u v) (m : Int) {n : Int} (hn : 1 ≤ n) : sz v ≤ sz (m * u.1 + n * v.1, m * u.2 + n * v.2) := by
  by_cases h1 : n = 1
  · subst h1
    have := R.near (-m)
    have e : sbm v u (-m) = (m * u.1 + 1 * v.1, m * u.2 + 1 * v.2) := by
      unfold sbm
      rw [Int.neg_mul, Int.neg_mul]
      refine Prod.ext ?_ ?_ <;> dsimp only <;> omega
    rw [e] at this
    exact this
  · have h2 : 2 ≤ n := by omega
    obtain ⟨q, hq⟩ : ∃ q, q = (2 * m + n) / (2 * n) := ⟨_, rfl⟩
    obtain ⟨r, hr⟩ : ∃ r, r = m - n * q := ⟨_, rfl⟩
    have d1 := Int.mul_ediv_add_emod (2 * m + n) (2 * n)
    have d2 := Int.emod_nonneg (2 * m + n) (show 2 * n ≠ 0 by omega)
    have d3 := Int.emod_lt_of_pos (2 * m + n) (show 0 < 2 * n by omega)
    rw [← hq] at d1
    have e0 : 2 * n * q = 2 * (n * q) := Int.mul_assoc ..
    have hr2 : 2 * (r.natAbs : Int) ≤ n := by
      rw [e0] at d1
      generalize n * q = Z at *
      omega
    have t := sz_tri n r (by omega) (v.1 + q * u.1, v.2 + q * u.2) u
    have nr := R.near (-q)
    have e : sbm v u (-q) = (v.1 + q * u.1, v.2 + q * u.2) := by
      unfold sbm
      rw [Int.neg_mul, Int.neg_mul]
      refine Prod.ext ?_ ?_ <;> dsimp only <;> omega
    rw [e] at nr
    have ez : (n * (v.1 + q * u.1) + r * u.1, n * (v.2 + q * u.2) + r * u.2) = (m * u.1 + n * v.1, m * u.2 + n * v.2) := by
      have hm : m = n * q + r := by omega
      refine Prod.ext ?_ ?_
      · show n * (v.1 + q * u.1) + r * u.1 = m * u.1 + n * v.1
        rw [hm, Int.mul_add, Int.add_mul, Int.mul_assoc]
        omega
      · show n * (v.2 + q * u.2) + r * u.2 = m * u.2 + n * v.2
        rw [hm, Int.mul_add, Int.add_mul, Int.mul_assoc]
        omega
    dsimp only at t
    rw [ez] at t
    have a1 := Int.mul_le_mul_of_nonneg_left nr (show 0 ≤ n by omega)
    have a2 := Int.mul_le_mul_of_nonneg_left R.le (show 0 ≤ (r.natAbs : Int) by omega)
    have a3 := Int.mul_le_mul_of_nonneg_right hr2 (sz_nn v)
    have a4 := Int.mul_le_mul_of_nonneg_right h2 (sz_nn v)
    rw [Int.mul_assoc] at a3
    generalize sz (m * u.1 + n * v.1, m * u.2 + n * v.2) = Z at *
    generalize n * sz (v.1 + q * u.1, v.2 + q * u.2) = Z1 at *
    generalize n * sz v = Z2 at *
    generalize (r.natAbs : Int) * sz v = Z3 at *
    generalize (r.natAbs : Int) * sz u = Z4 at *
    omega
theorem red_any {u v : Int × Int} (R : Red u v) (m : Int) {n : Int} (hn : n ≠ 0) : sz v ≤ sz (m * u.1 + n * v.1, m * u.2 + n * v.2) := by
  rcases Int.lt_or_gt_of_ne hn with h | h
  · have := red_two R (-m) (n := -n) (by omega)
    have e : (-m * u.1 + -n * v.1, -m * u.2 + -n * v.2) = (-(m * u.1 + n * v.1), -(m * u.2 + n * v.2)) := by
      refine Prod.ext ?_ ?_
      · show -m * u.1 + -n * v.1 = -(m * u.1 + n * v.1)
        rw [Int.neg_mul, Int.neg_mul]
        omega
      · show -m * u.2 + -n * v.2 = -(m * u.2 + n * v.2)
        rw [Int.neg_mul, Int.neg_mul]
        omega
    rw [e] at this
    have e2 := sz_neg (m * u.1 + n * v.1, m * u.2 + n * v.2)
    dsimp only at e2
    rw [e2] at this
    exact this
  · exact red_two R m h
theorem red_one {u : Int × Int} {m : Int} (hm : m ≠ 0) : sz u ≤ sz (m * u.1, m * u.2) := by
  have h1 : 1 ≤ (m.natAbs : Int) := by omega
  have e : ∀ a : Int, (a.natAbs : Int) ≤ ((m * a).natAbs : Int) := fun a => by
    rw [Int.natAbs_mul, Int.natCast_mul]
    have := Int.mul_le_mul_of_nonneg_right h1 (show 0 ≤ (a.natAbs : Int) by omega)
    omega
  have e1 := e u.1
  have e2 := e u.2
  unfold sz
  dsimp only
  omega
/-! ### the lattice -/
def InL (P w : Int) (z : Int × Int) : Prop := ∃ k, z.1 = z.2 * w + k * P
structure Bas (P w : Int) (u v : Int × Int) : Prop where
  l : InL P w u
  r : InL P w v
  all : ∀ z, InL P w z → ∃ m n : Int, z = (m * u.1 + n * v.1, m * u.2 + n * v.2)
theorem bas_init (P w : Int) : Bas P w (w, 1) (P, 0) := ⟨⟨0, by simp⟩, ⟨1, by simp⟩, fun z ⟨k, hk⟩ => ⟨z.2, k, Prod.ext (by dsimp only; exact hk) (by dsimp only; omega)⟩⟩
theorem Bas.swap {P w : Int} {u v : Int × Int} (B : Bas P w u v) : Bas P w v u := ⟨B.r, B.l, fun z hz => by
  obtain ⟨m, n, e⟩ := B.all z hz
  exact ⟨n, m, by rw [e]; exact Prod.ext (Int.add_comm ..) (Int.add_comm ..)⟩⟩
theorem Bas.step {P w : Int} {u v : Int × Int} (B : Bas P w u v) (k : Int) : Bas P w u (sbm v u k) := by
  obtain ⟨a, ha⟩ := B.l
  obtain ⟨b, hb⟩ := B.r
  refine ⟨B.l, ⟨b - k * a, ?_⟩, fun z hz => ?_⟩
  · unfold sbm
    dsimp only
    rw [ha, hb]
    simp only [Int.sub_mul, Int.mul_add, Int.mul_assoc]
    omega
  · obtain ⟨m, n, e⟩ := B.all z hz
    refine ⟨m + n * k, n, ?_⟩
    rw [e]
    unfold sbm
    refine Prod.ext ?_ ?_
    · show m * u.1 + n * v.1 = (m + n * k) * u.1 + n * (v.1 - k * u.1)
      rw [Int.add_mul, Int.mul_sub, Int.mul_assoc]
      omega
    · show m * u.2 + n * v.2 = (m + n * k) * u.2 + n * (v.2 - k * u.2)
      rw [Int.add_mul, Int.mul_sub, Int.mul_assoc]
      omega
theorem Bas.nz {P w : Int} (hP : 0 < P) {u v : Int × Int} (B : Bas P w u v) : v ≠ (0, 0) := by
  intro hv
  obtain ⟨m, n, e⟩ := B.all (P, 0) ⟨1, by simp⟩
  obtain ⟨m', n', e'⟩ := B.all (w, 1) ⟨0, by simp⟩
  rw [hv] at e e'
  have e1 : P = m * u.1 + n * 0 := congrArg Prod.fst e
  have e2 : 0 = m * u.2 + n * 0 := congrArg Prod.snd e
  have e4 : 1 = m' * u.2 + n' * 0 := congrArg Prod.snd e'
  rw [Int.mul_zero, Int.add_zero] at e1 e2 e4
  have h2 : m = 0 ∨ u.2 = 0 := Int.mul_eq_zero.mp e2.symm
  rcases h2 with h | h
  · rw [h, Int.zero_mul] at e1
    omega
  · rw [h, Int.mul_zero] at e4
    omega
/-- the pair that is taken is the least whose low the prime does not divide -/
theorem fit_least {P w p : Int} {u v : Int × Int} (B : Bas P w u v) (R : Red u v) {x : Int × Int} (hx : x = if u.2 % p ≠ 0 then u else v) : InL P w x ∧ (1 < p → x.2 % p ≠ 0) ∧ ∀ z, InL P w z → z.2 % p ≠ 0 → sz x ≤ sz z := by
  by_cases c : u.2 % p ≠ 0
  · rw [if_pos c] at hx
    subst hx
    refine ⟨B.l, fun _ => c, fun z hz hzp => ?_⟩
    obtain ⟨m, n, e⟩ := B.all z hz
    by_cases hn : n = 0
    · subst hn
      have hm : m ≠ 0 := fun h => by
        rw [e, h] at hzp
        simp at hzp
      have := red_one (u := x) hm
      rw [e]
      simpa using this
    · have := red_any R m hn
      rw [e]
      have := R.le
      omega
  · rw [if_neg c] at hx
    subst hx
    have c : u.2 % p = 0 := by omega
    obtain ⟨d, hd⟩ := Int.dvd_of_emod_eq_zero c
    refine ⟨B.r, fun hp hv => ?_, fun z hz hzp => ?_⟩
    · obtain ⟨m, n, e⟩ := B.all (w, 1) ⟨0, by simp⟩
      have e2 : 1 = m * u.2 + n * x.2 := congrArg Prod.snd e
      obtain ⟨d', hd'⟩ := Int.dvd_of_emod_eq_zero hv
      have : p ∣ 1 := ⟨m * d + n * d', by rw [e2, hd, hd', Int.mul_add, Int.mul_left_comm m, Int.mul_left_comm n]⟩
      have := Int.le_of_dvd (by decide) this
      omega
    · obtain ⟨m, n, e⟩ := B.all z hz
      by_cases hn : n = 0
      · exfalso
        subst hn
        apply hzp
        rw [e]
        show (m * u.2 + 0 * x.2) % p = 0
        rw [Int.zero_mul, Int.add_zero, hd, Int.mul_left_comm]
        exact Int.mul_emod_right ..
      · rw [e]
        exact red_any R m hn
end IPL
end
section
set_option linter.all false
set_option maxRecDepth 8000
/-! Pol2: sums of polynomials, division with a rest. -/
namespace IPL
open IP
open PySem (PyData)
theorem getD_range (f : Nat → Int) (n i : Nat) : ((List.range n).map f).getD i 0 = if i < n then f i else 0 := by
  by_cases h : i < n
  · simp [List.getD, h]
  · simp [List.getD, h]
def Poly (p : Int) (a : List Int) : Prop := nums p a ∧ polyL a
theorem poly_nil (p : Int) : Poly p [] := ⟨(fun x h => by cases h), .inl rfl⟩
theorem poly_ext {a b : List Int} (ha : polyL a) (hb : polyL b) (h : ∀ i, a.getD i 0 = b.getD i 0) : a = b := by
  rw [← trim_of_poly ha, ← trim_of_poly hb]
  exact trim_ext h
def add (p : Int) (a b : List Int) : List Int := trim ((List.range (max a.length b.length)).map fun i => (a.getD i 0 + b.getD i 0) % p)
theorem add_getD {p : Int} (a b : List Int) (i : Nat) : (add p a b).getD i 0 = (a.getD i 0 + b.getD i 0) % p := by
  unfold add
  rw [trim_getD, getD_range]
  by_cases h : i < max a.length b.length
  · rw [if_pos h]
  · rw [if_neg h, getD_big a i (by omega), getD_big b i (by omega)]
    simp
theorem nums_range {p : Int} (h0 : 0 < p) (f : Nat → Int) (n : Nat) : nums p ((List.range n).map fun i => f i % p) := by
  intro x hx
  obtain ⟨k, _, rfl⟩ := List.mem_map.mp hx
  exact ⟨Int.emod_nonneg _ (by omega), Int.emod_lt_of_pos _ h0⟩
theorem add_poly {p : Int} (h0 : 0 < p) (a b : List Int) : Poly p (add p a b) := ⟨trim_nums (nums_range h0 _ _), trim_poly _⟩
theorem mul_poly {p : Int} (h0 : 0 < p) (a b : List Int) : Poly p (mul p a b) := ⟨trim_nums (nums_range h0 _ _), trim_poly _⟩
theorem add_len (p : Int) (a b : List Int) : (add p a b).length ≤ max a.length b.length := by
  have := trim_le ((List.range (max a.length b.length)).map fun i => (a.getD i 0 + b.getD i 0) % p)
  simpa [add] using this
theorem mul_len (p : Int) (a b : List Int) : (mul p a b).length ≤ a.length + b.length := by
  have := trim_le ((List.range (a.length + b.length)).map fun i => ab a b a.length i % p)
  simpa [mul] using this
theorem add_of {p : Int} {a b r : List Int} (h : ∀ i, r.getD i 0 = (a.getD i 0 + b.getD i 0) % p) : trim r = add p a b := by
  unfold add
  apply trim_ext
  intro i
  have e := add_getD (p := p) a b i
  unfold add at e
  rw [trim_getD] at e
  rw [h, e]
theorem sg_add (f g : Nat → Int) : ∀ n, sg (fun j => f j + g j) n = sg f n + sg g n
  | 0 => rfl
  | n + 1 => by
    show sg (fun j => f j + g j) n + (f n + g n) = sg f n + f n + (sg g n + g n)
    rw [sg_add f g n]
    omega
theorem sg_one (m : Nat) (v : Int) : ∀ n, sg (fun j => if j = m then v else 0) n = if m < n then v else 0
  | 0 => by simp [sg]
  | n + 1 => by
    show sg (fun j => if j = m then v else 0) n + (if n = m then v else 0) = _
    rw [sg_one m v n]
    by_cases h1 : m < n
    · rw [if_pos h1, if_neg (by omega), if_pos (by omega)]
      omega
    · by_cases h2 : n = m
      · subst h2
        simp
      · rw [if_neg h1, if_neg h2, if_neg (by omega)]
        rfl
/-- a number put at a place where 0 stands adds so much to a product -/
theorem cv_set {q b : List Int} {m : Nat} {f : Int} (hm : m < q.length) (h0 : q.getD m 0 = 0) (i : Nat) : cv (q.set m f) b i = cv q b i + (if m ≤ i then f * b.getD (i - m) 0 else 0) := by
  have e : (fun j => (q.set m f).getD j 0 * b.getD (i - j) 0) = fun j => q.getD j 0 * b.getD (i - j) 0 + (if j = m then f * b.getD (i - m) 0 else 0) := by
    funext j
    rw [getD_set q m j f hm]
    by_cases h : j = m
    · subst h
      rw [if_pos rfl, if_pos rfl, h0, Int.zero_mul, Int.zero_add]
    · rw [if_neg h, if_neg h, Int.add_zero]
  unfold cv
  rw [e, sg_add, sg_one]
  congr 1
  by_cases h : m ≤ i
  · rw [if_pos (by omega), if_pos h]
  · rw [if_neg (by omega), if_neg h]
/-- one turn of a division: a multiple of b is taken off at s -/
def dstep (p sc : Int) (b : List Int) (s : Nat) (r : List Int) : List Int :=
  (List.range r.length).map fun i => if s ≤ i ∧ i < s + b.length then (r.getD i 0 - r.getD (s + b.length - 1) 0 * sc % p * b.getD (i - s) 0) % p else r.getD i 0
theorem dstep_len (p sc : Int) (b : List Int) (s : Nat) (r : List Int) : (dstep p sc b s r).length = r.length := by simp [dstep]
theorem dstep_getD {p sc : Int} {b : List Int} {s : Nat} {r : List Int} (hs : s + b.length ≤ r.length) (i : Nat) :
    (dstep p sc b s r).getD i 0 = if s ≤ i ∧ i < s + b.length then (r.getD i 0 - r.getD (s + b.length - 1) 0 * sc % p * b.getD (i - s) 0) % p else r.getD i 0 := by
  unfold dstep
  rw [getD_range]
  by_cases h : i < r.length
  · rw [if_pos h]
  · rw [if_neg h, if_neg (by omega), getD_big r i (by omega)]
theorem dstep_nums {p sc : Int} (h0 : 0 < p) {b : List Int} {s : Nat} {r : List Int} (hr : nums p r) : nums p (dstep p sc b s r) := by
  intro x hx
  obtain ⟨k, hk, rfl⟩ := List.mem_map.mp hx
  split
  · exact ⟨Int.emod_nonneg _ (by omega), Int.emod_lt_of_pos _ h0⟩
  · exact nums_getD h0 hr k
/-- the quotient's numbers and the rest, shifts m - 1 down to 0 -/
def drun (p sc : Int) (b : List Int) : Nat → List Int → List Int → List Int × List Int
  | 0, q, r => (q, r)
  | m + 1, q, r => drun p sc b m (q.set m (r.getD (m + b.length - 1) 0 * sc % p)) (dstep p sc b m r)
theorem drun_rest (p sc : Int) (b : List Int) : ∀ (m : Nat) (q q' r : List Int), (drun p sc b m q r).2 = (drun p sc b m q' r).2
  | 0, _, _, _ => rfl
  | m + 1, q, q', r => drun_rest p sc b m _ _ _
theorem emod_add_congr {p x y z : Int} (h : x % p = y % p) : (x + z) % p = (y + z) % p := by
  rw [Int.add_emod, h, ← Int.add_emod]
theorem drun_ok {p sc : Int} (hp : 0 < p) {b : List Int} (hb : b ≠ []) (hsc : sc * b.getD (b.length - 1) 0 % p = 1 % p) : ∀ (m : Nat) (q r : List Int), m ≤ q.length → m + b.length ≤ r.length + 1 → nums p q → nums p r →
    (∀ j, j < m → q.getD j 0 = 0) → (∀ i, m + b.length - 1 ≤ i → r.getD i 0 = 0) →
    nums p (drun p sc b m q r).1 ∧ nums p (drun p sc b m q r).2 ∧ (drun p sc b m q r).1.length = q.length ∧ (drun p sc b m q r).2.length = r.length ∧ (∀ i, b.length - 1 ≤ i → (drun p sc b m q r).2.getD i 0 = 0) ∧
      ∀ i, (cv (drun p sc b m q r).1 b i + (drun p sc b m q r).2.getD i 0) % p = (cv q b i + r.getD i 0) % p
  | 0, q, r, _, _, hq, hr, _, hz => ⟨hq, hr, rfl, rfl, fun i hi => hz i (by omega), fun i => rfl⟩
  | m + 1, q, r, h1, h2, hq, hr, h3, h4 => by
    have hbl : 0 < b.length := List.length_pos_iff.mpr hb
    have hfb : 0 ≤ r.getD (m + b.length - 1) 0 * sc % p ∧ r.getD (m + b.length - 1) 0 * sc % p < p := ⟨Int.emod_nonneg _ (by omega), Int.emod_lt_of_pos _ hp⟩
    have hg := fun i => dstep_getD (p := p) (sc := sc) (b := b) (s := m) (r := r) (by omega) i
    have ih := drun_ok hp hb hsc m (q.set m (r.getD (m + b.length - 1) 0 * sc % p)) (dstep p sc b m r) (by rw [List.length_set]; omega) (by rw [dstep_len]; omega)
      (fun x hx => by
        rcases List.mem_or_eq_of_mem_set hx with h | rfl
        · exact hq x h
        · exact hfb) (dstep_nums hp hr)
      (fun j hj => by rw [getD_set q m j _ (by omega), if_neg (by omega)]; exact h3 j (by omega))
      (fun i hi => by
        rw [hg]
        by_cases hi2 : i = m + b.length - 1
        · subst hi2
          rw [if_pos (by omega), show m + b.length - 1 - m = b.length - 1 by omega]
          generalize r.getD (m + b.length - 1) 0 = t
          generalize b.getD (b.length - 1) 0 = l at hsc ⊢
          have e1 := Int.mul_ediv_add_emod (t * sc) p
          have e2 := Int.mul_ediv_add_emod (sc * l) p
          have e3 := Int.mul_ediv_add_emod 1 p
          rw [hsc] at e2
          generalize t * sc / p = u at e1
          generalize t * sc % p = f at e1 ⊢
          generalize sc * l / p = w at e2
          generalize (1 : Int) / p = z at e3
          generalize (1 : Int) % p = o at e2 e3
          apply Int.emod_eq_zero_of_dvd
          exact ⟨t * (z - w) + u * l, by grind⟩
        · rw [if_neg (by omega)]
          exact h4 i (by omega))
    refine ⟨ih.1, ih.2.1, ?_, ?_, ih.2.2.2.2.1, fun i => ?_⟩
    · rw [show drun p sc b (m + 1) q r = drun p sc b m (q.set m (r.getD (m + b.length - 1) 0 * sc % p)) (dstep p sc b m r) from rfl, ih.2.2.1, List.length_set]
    · rw [show drun p sc b (m + 1) q r = drun p sc b m (q.set m (r.getD (m + b.length - 1) 0 * sc % p)) (dstep p sc b m r) from rfl, ih.2.2.2.1, dstep_len]
    · refine (ih.2.2.2.2.2 i).trans ?_
      rw [cv_set (by omega) (h3 m (by omega)), hg]
      generalize r.getD (m + b.length - 1) 0 * sc % p = f
      by_cases hi : m ≤ i
      · by_cases hi2 : i < m + b.length
        · rw [if_pos hi, if_pos ⟨hi, hi2⟩, Int.add_emod_emod]
          congr 1
          omega
        · rw [if_pos hi, if_neg (by omega), getD_big b (i - m) (by omega)]
          congr 1
          omega
      · rw [if_neg hi, if_neg (by omega)]
        congr 1
        omega
theorem small_eq {p x y : Int} (hx : 0 ≤ x ∧ x < p) (hy : 0 ≤ y ∧ y < p) (h : p ∣ x - y) : x = y := by
  rw [← emod_small hx, ← emod_small hy]
  exact emod_of h
theorem cv_sub (q q' b : List Int) (i : Nat) : cv q b i - cv q' b i = sg (fun j => (q.getD j 0 - q'.getD j 0) * b.getD (i - j) 0) (i + 1) := by
  have e : (fun j => q.getD j 0 * b.getD (i - j) 0) = fun j => q'.getD j 0 * b.getD (i - j) 0 + (q.getD j 0 - q'.getD j 0) * b.getD (i - j) 0 := by
    funext j
    rw [Int.sub_mul]
    omega
  unfold cv
  rw [e, sg_add]
  omega
/-- there is one quotient and one rest -/
theorem div_uniq {p sc : Int} (hp : 0 < p) {b : List Int} (hb : b ≠ []) (hsc : sc * b.getD (b.length - 1) 0 % p = 1 % p) {q q' r r' : List Int} (hq : nums p q) (hq' : nums p q') (hr : nums p r) (hr' : nums p r')
    (h1 : ∀ i, b.length - 1 ≤ i → r.getD i 0 = 0) (h2 : ∀ i, b.length - 1 ≤ i → r'.getD i 0 = 0) (h : ∀ i, (cv q b i + r.getD i 0) % p = (cv q' b i + r'.getD i 0) % p) :
    (∀ i, q.getD i 0 = q'.getD i 0) ∧ ∀ i, r.getD i 0 = r'.getD i 0 := by
  have hbl : 0 < b.length := List.length_pos_iff.mpr hb
  have hq0 := fun i => nums_getD hp hq i
  have hq0' := fun i => nums_getD hp hq' i
  have key : ∀ (e d : Nat), max q.length q'.length ≤ d + e → ∀ j, d ≤ j → q.getD j 0 = q'.getD j 0 := by
    intro e
    induction e with
    | zero => intro d hd j hj; rw [getD_big q j (by omega), getD_big q' j (by omega)]
    | succ e ih =>
      intro d hd j hj
      by_cases hjd : j = d
      · subst hjd
        have ih' := ih (j + 1) (by omega)
        have hs := cv_sub q q' b (j + (b.length - 1))
        have e1 : sg (fun t => (q.getD t 0 - q'.getD t 0) * b.getD (j + (b.length - 1) - t) 0) (j + (b.length - 1) + 1) = sg (fun t => if t = j then (q.getD j 0 - q'.getD j 0) * b.getD (b.length - 1) 0 else 0) (j + (b.length - 1) + 1) := by
          apply sg_congr
          intro t ht
          by_cases ht2 : t = j
          · subst ht2
            rw [if_pos rfl, show t + (b.length - 1) - t = b.length - 1 by omega]
          · rw [if_neg ht2]
            rcases Nat.lt_or_ge t j with h3 | h3
            · rw [getD_big b _ (by omega), Int.mul_zero]
            · rw [ih' t (by omega), Int.sub_self, Int.zero_mul]
        rw [e1, sg_one, if_pos (by omega)] at hs
        have h5 := h (j + (b.length - 1))
        rw [h1 _ (by omega), h2 _ (by omega), Int.add_zero, Int.add_zero] at h5
        have h6 : p ∣ cv q b (j + (b.length - 1)) - cv q' b (j + (b.length - 1)) := Int.dvd_of_emod_eq_zero (Int.emod_eq_emod_iff_emod_sub_eq_zero.mp h5)
        rw [hs] at h6
        obtain ⟨u, hu⟩ := h6
        apply small_eq (hq0 j) (hq0' j)
        generalize q.getD j 0 - q'.getD j 0 = x at *
        generalize b.getD (b.length - 1) 0 = l at *
        have e2 := Int.mul_ediv_add_emod (sc * l) p
        have e3 := Int.mul_ediv_add_emod 1 p
        rw [hsc] at e2
        generalize sc * l / p = w at e2
        generalize (1 : Int) / p = z at e3
        generalize (1 : Int) % p = o at e2 e3
        exact ⟨u * sc + x * (z - w), by grind⟩
      · exact ih (d + 1) (by omega) j (by omega)
  have hqq : ∀ i, q.getD i 0 = q'.getD i 0 := fun i => key (max q.length q'.length) 0 (by omega) i (by omega)
  refine ⟨hqq, fun i => ?_⟩
  have h5 := h i
  rw [cv_ext (a' := q') (b' := b) hqq (fun _ => rfl) i] at h5
  apply small_eq (nums_getD hp hr i) (nums_getD hp hr' i)
  have h6 : p ∣ (cv q' b i + r.getD i 0) - (cv q' b i + r'.getD i 0) := Int.dvd_of_emod_eq_zero (Int.emod_eq_emod_iff_emod_sub_eq_zero.mp h5)
  rw [show cv q' b i + r.getD i 0 - (cv q' b i + r'.getD i 0) = r.getD i 0 - r'.getD i 0 by omega] at h6
  exact h6
theorem inv_lt {p l : Int} {m : Nat} (hp : isPrime p) (h : IsInv p l m) : (m : Int) < p := by
  have pp := prime_pos hp
  rcases Int.lt_or_le (m : Int) p with a | a
  · exact a
  · exfalso
    have h1 := h.1
    have h2 := h.2.2.1
    -- m less p would do as well, or m is p
    by_cases e : (m : Int) = p
    · rw [e, Int.mul_emod_left] at h2
      omega
    · refine h.2.2.2 (m - p.toNat) (by omega) (by omega) ?_
      rw [show ((m - p.toNat : Nat) : Int) = (m : Int) - p by omega, Int.mul_sub, Int.sub_emod, Int.mul_emod_left, Int.sub_zero, Int.emod_emod]
      exact h2
end IPL
end
section
set_option linter.all false
set_option maxRecDepth 100000
set_option maxHeartbeats 1000000
/-! Eul: Fermat's and Euler's theorems, orders of powers. -/
namespace IPL
open IP
/-- a prime number -/
def Pr (q : Nat) : Prop := 2 ≤ q ∧ ∀ d, d ∣ q → d = 1 ∨ d = q
theorem pr_cop {q a : Nat} (hq : Pr q) (h : ¬ q ∣ a) : Nat.Coprime q a := by
  rcases hq.2 _ (Nat.gcd_dvd_left q a) with g | g
  · exact g
  · exact absurd (g ▸ Nat.gcd_dvd_right q a) h
theorem pr_mul {q a b : Nat} (hq : Pr q) (h : q ∣ a * b) : q ∣ a ∨ q ∣ b := by
  by_cases g : q ∣ a
  · exact .inl g
  · exact .inr ((pr_cop hq g).dvd_of_dvd_mul_left h)
/-- every number from 2 on has a prime divisor -/
theorem pr_ex : ∀ n : Nat, 2 ≤ n → ∃ q, Pr q ∧ q ∣ n := fun n => by
  induction n using Nat.strongRecOn with
  | _ n ih =>
    intro h
    by_cases hp : Pr n
    · exact ⟨n, hp, Nat.dvd_refl n⟩
    · have : ∃ d, d ∣ n ∧ d ≠ 1 ∧ d ≠ n := by
        apply Classical.byContradiction
        intro hn
        exact hp ⟨h, fun d hd => by
          by_cases h1 : d = 1
          · exact .inl h1
          · by_cases h2 : d = n
            · exact .inr h2
            · exact absurd ⟨d, hd, h1, h2⟩ hn⟩
      obtain ⟨d, hd, h1, h2⟩ := this
      have hle := Nat.le_of_dvd (by omega) hd
      have h0 : d ≠ 0 := fun e => by
        rw [e] at hd
        have := Nat.eq_zero_of_zero_dvd hd
        omega
      obtain ⟨q, hq, hqd⟩ := ih d (by omega) (by omega)
      exact ⟨q, hq, Nat.dvd_trans hqd hd⟩
/-! binomials -/
def cb : Nat → Nat → Nat
  | _, 0 => 1
  | 0, _ + 1 => 0
  | n + 1, k + 1 => cb n k + cb n (k + 1)
theorem cb_0 (n : Nat) : cb n 0 = 1 := by cases n <;> rfl
theorem cb_big : ∀ n k, n < k → cb n k = 0
  | _, 0, h => by omega
  | 0, k + 1, _ => rfl
  | n + 1, k + 1, h => by rw [cb, cb_big n k (by omega), cb_big n (k + 1) (by omega)]
theorem cb_nn : ∀ n, cb n n = 1
  | 0 => rfl
  | n + 1 => by rw [cb, cb_nn n, cb_big n (n + 1) (by omega)]
theorem cb_abs : ∀ n k, (k + 1) * cb (n + 1) (k + 1) = (n + 1) * cb n k
  | 0, 0 => rfl
  | 0, k + 1 => by rw [cb_big 1 (k + 2) (by omega), cb_big 0 (k + 1) (by omega)]; rfl
  | n + 1, 0 => by
    have ih := cb_abs n 0
    rw [cb_0] at ih ⊢
    rw [cb, cb_0]
    omega
  | n + 1, k + 1 => by
    have i1 := cb_abs n k
    have i2 := cb_abs n (k + 1)
    have e1 : cb (n + 2) (k + 2) = cb (n + 1) (k + 1) + cb (n + 1) (k + 2) := rfl
    have e2 : cb (n + 1) (k + 1) = cb n k + cb n (k + 1) := rfl
    show (k + 2) * cb (n + 2) (k + 2) = (n + 2) * cb (n + 1) (k + 1)
    rw [e1, Nat.mul_add, i2, show (k + 2) * cb (n + 1) (k + 1) = (k + 1) * cb (n + 1) (k + 1) + cb (n + 1) (k + 1) by rw [← Nat.succ_mul], i1, show (n + 2) * cb (n + 1) (k + 1) = (n + 1) * cb (n + 1) (k + 1) + cb (n + 1) (k + 1) by rw [← Nat.succ_mul], e2, Nat.mul_add]
    omega
theorem cb_pr {q : Nat} (hq : Pr q) {k : Nat} (h1 : 1 ≤ k) (h2 : k < q) : q ∣ cb q k := by
  obtain ⟨k, rfl⟩ : ∃ j, k = j + 1 := ⟨k - 1, by omega⟩
  obtain ⟨m, rfl⟩ : ∃ j, q = j + 1 := ⟨q - 1, by omega⟩
  have := cb_abs m k
  rcases pr_mul hq (this ▸ Nat.dvd_mul_right (m + 1) _) with h | h
  · have := Nat.le_of_dvd (by omega) h
    omega
  · exact h
theorem sg_scaleE (f : Nat → Int) (c : Int) : ∀ n, sg (fun j => c * f j) n = c * sg f n
  | 0 => by simp [sg]
  | n + 1 => by rw [sg, sg, sg_scaleE f c n, Int.mul_add]
theorem binom (x : Int) : ∀ n : Nat, (x + 1) ^ n = sg (fun k => (cb n k : Int) * x ^ k) (n + 1)
  | 0 => by simp [sg, cb]
  | n + 1 => by
    have ih := binom x n
    rw [sg_front]
    have e1 : sg (fun j => (cb (n + 1) (j + 1) : Int) * x ^ (j + 1)) (n + 1) = x * sg (fun k => (cb n k : Int) * x ^ k) (n + 1) + sg (fun k => (cb n (k + 1) : Int) * x ^ (k + 1)) (n + 1) := by
      rw [← sg_scaleE, ← sg_add]
      refine sg_congr fun j _ => ?_
      show ((cb n j + cb n (j + 1) : Nat) : Int) * x ^ (j + 1) = x * ((cb n j : Int) * x ^ j) + _
      rw [Int.natCast_add, Int.add_mul, Int.pow_succ]
      congr 1
      grind
    have e2 : sg (fun k => (cb n k : Int) * x ^ k) (n + 2) = 1 + sg (fun k => (cb n (k + 1) : Int) * x ^ (k + 1)) (n + 1) := by
      rw [sg_front, cb_0]
      simp
    have e3 : sg (fun k => (cb n k : Int) * x ^ k) (n + 2) = sg (fun k => (cb n k : Int) * x ^ k) (n + 1) := by
      rw [sg, cb_big n (n + 1) (by omega)]
      simp
    rw [e1, Int.pow_succ, ih, cb_0]
    rw [e3] at e2
    grind
theorem fer_add {q : Nat} (hq : Pr q) (x : Int) : (q : Int) ∣ (x + 1) ^ q - (x ^ q + 1) := by
  obtain ⟨m, hm⟩ : ∃ m, q = m + 1 := ⟨q - 1, by have := hq.1; omega⟩
  rw [binom x q]
  have e1 : sg (fun k => (cb q k : Int) * x ^ k) (q + 1) = sg (fun k => (cb q k : Int) * x ^ k) q + x ^ q := by
    rw [sg, cb_nn]
    simp
  have e2 : sg (fun k => (cb q k : Int) * x ^ k) q = 1 + sg (fun j => (cb q (j + 1) : Int) * x ^ (j + 1)) m := by
    conv => lhs; rw [hm]
    rw [sg_front, ← hm, cb_0]
    simp
  rw [e1, e2]
  have := sg_dvd (p := (q : Int)) (n := m) (f := fun j => (cb q (j + 1) : Int) * x ^ (j + 1)) (g := fun _ => 0) fun j hj => by
    rw [Int.sub_zero]
    exact Int.dvd_mul_of_dvd_left (Int.natCast_dvd_natCast.mpr (cb_pr hq (by omega) (by omega)))
  rw [sg_zero (f := fun _ => 0) fun _ _ => rfl, Int.sub_zero] at this
  have e : 1 + sg (fun j => (cb q (j + 1) : Int) * x ^ (j + 1)) m + x ^ q - (x ^ q + 1) = sg (fun j => (cb q (j + 1) : Int) * x ^ (j + 1)) m := by omega
  rw [e]
  exact this
theorem fer_nat {q : Nat} (hq : Pr q) : ∀ a : Nat, (q : Int) ∣ (a : Int) ^ q - a
  | 0 => by
    have := hq.1
    rw [Int.natCast_zero, Int.zero_pow (by omega)]
    exact ⟨0, by simp⟩
  | a + 1 => by
    have h := Int.dvd_add (fer_add hq (a : Int)) (fer_nat hq a)
    have e : ((a : Int) + 1) ^ q - ((a : Int) ^ q + 1) + ((a : Int) ^ q - a) = ((a + 1 : Nat) : Int) ^ q - ((a + 1 : Nat) : Int) := by
      rw [Int.natCast_add, Int.natCast_one]
      omega
    rwa [e] at h
theorem pr_mulI {q : Nat} (hq : Pr q) {a b : Int} (h : (q : Int) ∣ a * b) : (q : Int) ∣ a ∨ (q : Int) ∣ b := by
  have h := Int.natAbs_dvd_natAbs.mpr h
  rw [Int.natAbs_mul, Int.natAbs_natCast] at h
  rcases pr_mul hq h with h | h
  · exact .inl (Int.natAbs_dvd_natAbs.mp (by rw [Int.natAbs_natCast]; exact h))
  · exact .inr (Int.natAbs_dvd_natAbs.mp (by rw [Int.natAbs_natCast]; exact h))
/-- Fermat -/
theorem fermat {q a : Nat} (hq : Pr q) (h : ¬ q ∣ a) : (q : Int) ∣ (a : Int) ^ (q - 1) - 1 := by
  have h1 := fer_nat hq a
  have hq1 := hq.1
  have e : (a : Int) ^ q - a = a * ((a : Int) ^ (q - 1) - 1) := by
    conv => lhs; rw [show q = (q - 1) + 1 by omega, Int.pow_succ]
    grind
  rw [e] at h1
  rcases pr_mulI hq h1 with g | g
  · exact absurd (Int.natCast_dvd_natCast.mp g) h
  · exact g
theorem geom (u : Int) : ∀ n : Nat, u ^ n - 1 = (u - 1) * sg (fun j => u ^ j) n
  | 0 => by simp [sg]
  | n + 1 => by
    have ih := geom u n
    rw [sg, Int.mul_add, ← ih, Int.pow_succ]
    grind
theorem sg_ones : ∀ n : Nat, sg (fun _ => (1 : Int)) n = n
  | 0 => rfl
  | n + 1 => by rw [sg, sg_ones n]; omega
theorem lift_p {q e : Nat} {u : Int} (h : (q : Int) ^ (e + 1) ∣ u - 1) : (q : Int) ^ (e + 2) ∣ u ^ q - 1 := by
  rw [geom u q, Int.pow_succ]
  refine Int.mul_dvd_mul h ?_
  have h1 : (q : Int) ∣ u - 1 := Int.dvd_trans ⟨(q : Int) ^ e, by rw [Int.pow_succ]; exact Int.mul_comm _ _⟩ h
  have := sg_dvd (p := (q : Int)) (n := q) (f := fun j => u ^ j) (g := fun _ => 1) fun j _ => by
    show (q : Int) ∣ u ^ j - 1
    rw [geom u j]
    exact Int.dvd_mul_of_dvd_left h1
  rw [sg_ones] at this
  have h2 := Int.dvd_add this (Int.dvd_refl (q : Int))
  rwa [Int.sub_add_cancel] at h2
theorem fer_pow {q a : Nat} (hq : Pr q) (h : ¬ q ∣ a) : ∀ e : Nat, (q : Int) ^ (e + 1) ∣ (a : Int) ^ (q ^ e * (q - 1)) - 1
  | 0 => by
    have := fermat hq h
    rw [Nat.pow_zero, Nat.one_mul, Nat.zero_add]
    rwa [show (q : Int) ^ 1 = q by rw [Int.pow_succ, Int.pow_zero, Int.one_mul]]
  | e + 1 => by
    have ih := lift_p (fer_pow hq h e)
    rw [← Int.pow_mul, show q ^ e * (q - 1) * q = q ^ (e + 1) * (q - 1) by rw [Nat.pow_succ, Nat.mul_right_comm]] at ih
    exact ih
theorem pow_more {d a : Int} {m n : Nat} (h : d ∣ a ^ m - 1) (hm : m ∣ n) : d ∣ a ^ n - 1 := by
  obtain ⟨c, rfl⟩ := hm
  rw [Int.pow_mul, geom]
  exact Int.dvd_mul_of_dvd_left h
/-! the exponent by prime divisors -/
theorem pr_prod {q : Nat} (hq : Pr q) : ∀ {L : List Nat}, (∀ r ∈ L, Pr r) → q ∉ L → Nat.Coprime q L.prod
  | [], _, _ => Nat.gcd_one_right q
  | r :: L, h, hn => by
    rw [List.prod_cons]
    refine Nat.Coprime.mul_right ?_ (pr_prod hq (fun x hx => h x (List.mem_cons_of_mem _ hx)) fun hx => hn (List.mem_cons_of_mem _ hx))
    refine pr_cop hq fun hd => ?_
    have h2 := hq.1
    rcases (h r List.mem_cons_self).2 q hd with e | e
    · omega
    · exact hn (e ▸ List.mem_cons_self)
theorem prod_dvd {n : Nat} : ∀ {L : List Nat}, (∀ r ∈ L, Pr r ∧ r ∣ n) → L.Nodup → L.prod ∣ n
  | [], _, _ => Nat.one_dvd n
  | r :: L, h, hn => by
    rw [List.nodup_cons] at hn
    rw [List.prod_cons]
    exact Nat.Coprime.mul_dvd_of_dvd_of_dvd (pr_prod (h r List.mem_cons_self).1 (fun x hx => (h x (List.mem_cons_of_mem _ hx)).1) hn.1) (h r List.mem_cons_self).2 (prod_dvd (fun x hx => h x (List.mem_cons_of_mem _ hx)) hn.2)
def totF (n : Nat) (L : List Nat) : Nat := L.foldl (fun e q => e / q * (q - 1)) n
theorem totF_eq : ∀ (L : List Nat) (y : Nat), (∀ r ∈ L, 1 ≤ r) → totF (L.prod * y) L = y * (L.map (· - 1)).prod
  | [], y, _ => by simp [totF]
  | r :: L, y, h => by
    have hr := h r List.mem_cons_self
    have ih := totF_eq L (y * (r - 1)) fun x hx => h x (List.mem_cons_of_mem _ hx)
    unfold totF at ih ⊢
    rw [List.foldl_cons, List.prod_cons, Nat.mul_assoc, Nat.mul_div_cancel_left _ (by omega), Nat.mul_assoc, ih, List.map_cons, List.prod_cons, Nat.mul_assoc]
theorem mem_dvd_prod {x : Nat} : ∀ {L : List Nat}, x ∈ L → x ∣ L.prod
  | r :: L, h => by
    rw [List.prod_cons]
    rcases List.mem_cons.mp h with rfl | h
    · exact Nat.dvd_mul_right _ _
    · exact Nat.dvd_mul_left_of_dvd (mem_dvd_prod h) r
theorem prod_app (a b : List Nat) : (a ++ b).prod = a.prod * b.prod := by
  induction a with
  | nil => simp
  | cons x a ih => rw [List.cons_append, List.prod_cons, List.prod_cons, ih, Nat.mul_assoc]
theorem split_p {q : Nat} (hq : 2 ≤ q) : ∀ n : Nat, 1 ≤ n → ∃ e m, n = q ^ e * m ∧ ¬ q ∣ m ∧ 1 ≤ m := fun n => by
  induction n using Nat.strongRecOn with
  | _ n ih =>
    intro h
    by_cases g : q ∣ n
    · obtain ⟨c, rfl⟩ := g
      have hc : 1 ≤ c := Nat.pos_of_ne_zero fun e => by rw [e] at h; simp at h
      have : c < q * c := by
        have := Nat.mul_le_mul_right c hq
        omega
      obtain ⟨e, m, h1, h2, h3⟩ := ih c this hc
      exact ⟨e + 1, m, by rw [h1, Nat.pow_succ]; rw [Nat.mul_comm (q ^ e) q, Nat.mul_assoc], h2, h3⟩
    · exact ⟨0, n, by simp, g, h⟩
theorem dvd_of_pp {m : Nat} : ∀ n : Nat, 1 ≤ n → (∀ q e, Pr q → q ^ (e + 1) ∣ n → q ^ (e + 1) ∣ m) → n ∣ m := fun n => by
  induction n using Nat.strongRecOn with
  | _ n ih =>
    intro h hp
    by_cases h1 : n = 1
    · rw [h1]; exact Nat.one_dvd m
    · obtain ⟨q, hq, hd⟩ := pr_ex n (by omega)
      have hq2 := hq.1
      obtain ⟨e, c, rfl, hc, hc1⟩ := split_p hq2 n h
      cases e with
      | zero =>
        rw [Nat.pow_zero, Nat.one_mul] at hd
        exact absurd hd hc
      | succ e =>
        have hlt : c < q ^ (e + 1) * c := by
          have : 2 ^ 1 ≤ q ^ (e + 1) := Nat.le_trans (Nat.pow_le_pow_left hq2 1) (Nat.pow_le_pow_right (by omega) (by omega))
          have := Nat.mul_le_mul_right c this
          omega
        exact Nat.Coprime.mul_dvd_of_dvd_of_dvd (Nat.Coprime.pow_left _ (pr_cop hq hc)) (hp q e hq (Nat.dvd_mul_right _ _)) (ih c hlt hc1 fun q' e' hq' hd' => hp q' e' hq' (Nat.dvd_mul_left_of_dvd hd' _))
/-- all prime divisors, each once -/
def PD (n : Nat) (L : List Nat) : Prop := (∀ r ∈ L, Pr r ∧ r ∣ n) ∧ L.Nodup ∧ ∀ q, Pr q → q ∣ n → q ∈ L
/-- Euler -/
theorem euler {n a : Nat} (hn : 1 ≤ n) (ha : 1 ≤ a) (hc : Nat.Coprime a n) {L : List Nat} (hL : PD n L) : 1 ≤ totF n L ∧ a ^ totF n L % n = 1 % n := by
  obtain ⟨h1, h2, h3⟩ := hL
  obtain ⟨y, hy⟩ := prod_dvd h1 h2
  have hE : totF n L = y * (L.map (· - 1)).prod := by
    rw [hy]
    exact totF_eq L y fun r hr => by have := (h1 r hr).1.1; omega
  have hy1 : 1 ≤ y := Nat.pos_of_ne_zero fun e => by rw [e] at hy; simp at hy; omega
  have pp : ∀ M : List Nat, (∀ r ∈ M, Pr r) → 1 ≤ (M.map (· - 1)).prod := fun M => by
    induction M with
    | nil => intro _; exact Nat.le_refl 1
    | cons r M ih =>
      intro h
      rw [List.map_cons, List.prod_cons]
      have := (h r List.mem_cons_self).1
      exact Nat.mul_pos (show 0 < r - 1 by omega) (ih fun x hx => h x (List.mem_cons_of_mem _ hx))
  refine ⟨by rw [hE]; exact Nat.mul_pos hy1 (pp L fun r hr => (h1 r hr).1), ?_⟩
  have key : n ∣ a ^ totF n L - 1 := by
    refine dvd_of_pp n hn fun q e hq hd => ?_
    have hq2 := hq.1
    have hqn : q ∣ n := Nat.dvd_trans ⟨q ^ e, by rw [Nat.pow_succ]; exact Nat.mul_comm _ _⟩ hd
    have hqa : ¬ q ∣ a := fun g => by
      have := Nat.dvd_gcd g hqn
      rw [hc] at this
      have := Nat.le_of_dvd (by omega) this
      omega
    have hm := h3 q hq hqn
    obtain ⟨l1, l2, hl⟩ := List.append_of_mem hm
    have hnd := h2
    rw [hl, List.nodup_append, List.nodup_cons] at hnd
    have q1 : q ∉ l1 := fun g => hnd.2.2 q g q List.mem_cons_self rfl
    have c1 := pr_prod hq (L := l1) (fun r hr => (h1 r (by rw [hl]; exact List.mem_append_left _ hr)).1) q1
    have c2 := pr_prod hq (L := l2) (fun r hr => (h1 r (by rw [hl]; exact List.mem_append_right _ (List.mem_cons_of_mem _ hr))).1) hnd.2.1.1
    have d1 : q ^ e ∣ y := by
      have g : q ^ (e + 1) ∣ q * (l1.prod * (l2.prod * y)) := by
        rw [show q * (l1.prod * (l2.prod * y)) = n by rw [hy, hl, prod_app, List.prod_cons]; rw [Nat.mul_left_comm, Nat.mul_assoc, Nat.mul_assoc]]
        exact hd
      rw [Nat.pow_succ, Nat.mul_comm] at g
      have g := Nat.dvd_of_mul_dvd_mul_left (by omega) g
      exact (Nat.Coprime.pow_left e c2).dvd_of_dvd_mul_left ((Nat.Coprime.pow_left e c1).dvd_of_dvd_mul_left g)
    have d2 : q ^ e * (q - 1) ∣ totF n L := by
      rw [hE]
      exact Nat.mul_dvd_mul d1 (mem_dvd_prod (List.mem_map.mpr ⟨q, hm, rfl⟩))
    have d3 := pow_more (fer_pow hq hqa e) d2
    have hp : 1 ≤ a ^ totF n L := Nat.pow_pos ha
    rw [← Int.natCast_pow, ← Int.natCast_pow] at d3
    have e4 : ((a ^ totF n L : Nat) : Int) - 1 = ((a ^ totF n L - 1 : Nat) : Int) := by omega
    rw [e4] at d3
    exact Int.natCast_dvd_natCast.mp d3
  obtain ⟨c, hcq⟩ := key
  have hp : 1 ≤ a ^ totF n L := Nat.pow_pos ha
  have : a ^ totF n L = 1 + n * c := by omega
  rw [this, Nat.add_mul_mod_self_left]
/-! orders -/
def IsOrd (a n d : Nat) : Prop := 1 ≤ d ∧ a ^ d % n = 1 % n ∧ ∀ k, a ^ k % n = 1 % n → d ∣ k
theorem one_mul {a n d : Nat} (h : a ^ d % n = 1 % n) (c : Nat) : a ^ (d * c) % n = 1 % n := by
  rw [Nat.pow_mul, Nat.pow_mod, h, ← Nat.pow_mod, Nat.one_pow]
theorem one_mod {a n d k : Nat} (h : a ^ d % n = 1 % n) (hk : a ^ k % n = 1 % n) : a ^ (k % d) % n = 1 % n := by
  have e : a ^ k = a ^ (d * (k / d)) * a ^ (k % d) := by rw [← Nat.pow_add, Nat.div_add_mod]
  rw [e, Nat.mul_mod, one_mul h, ← Nat.mul_mod, Nat.one_mul] at hk
  exact hk
theorem ord_of {a n E : Nat} (h1 : 1 ≤ E) (h2 : a ^ E % n = 1 % n) (h3 : ∀ q, Pr q → q ∣ E → a ^ (E / q) % n ≠ 1 % n) : IsOrd a n E := by
  have : ∃ d, 1 ≤ d ∧ a ^ d % n = 1 % n ∧ ∀ k, 1 ≤ k → a ^ k % n = 1 % n → d ≤ k := by
    apply Classical.byContradiction
    intro hn
    have : ∀ m k, k ≤ m → 1 ≤ k → a ^ k % n ≠ 1 % n := fun m => by
      induction m with
      | zero => intro k hk h; omega
      | succ m ih =>
        intro k hk h hq
        by_cases g : k = m + 1
        · subst g
          exact hn ⟨m + 1, h, hq, fun j hj hqj => by
            rcases Nat.lt_or_ge j (m + 1) with g | g
            · exact absurd hqj (ih j (by omega) hj)
            · exact g⟩
        · exact ih k (by omega) h hq
    exact this E E (Nat.le_refl E) h1 h2
  obtain ⟨d, d1, d2, d3⟩ := this
  have dv : ∀ k, a ^ k % n = 1 % n → d ∣ k := fun k hk => by
    have g := one_mod d2 hk
    apply Nat.dvd_of_mod_eq_zero
    rcases Nat.eq_zero_or_pos (k % d) with z | z
    · exact z
    · have := d3 _ z g
      have := Nat.mod_lt k d1
      omega
  obtain ⟨c, hc⟩ := dv E h2
  by_cases c1 : c = 1
  · rw [c1, Nat.mul_one] at hc
    rw [hc]
    exact ⟨d1, d2, dv⟩
  · have c0 : c ≠ 0 := fun e => by rw [e] at hc; simp at hc; omega
    obtain ⟨q, hq, f, hf⟩ := pr_ex c (by omega)
    have hq2 := hq.1
    refine absurd ?_ (h3 q hq (by rw [hc, hf]; exact ⟨d * f, by rw [Nat.mul_left_comm]⟩))
    rw [hc, hf, show d * (q * f) = q * (d * f) by rw [Nat.mul_left_comm], Nat.mul_div_cancel_left _ (by omega)]
    exact one_mul d2 f
/-- what is left out stays out -/
theorem ord_keep {a n E d q : Nat} (hd : d ∣ E) (hE : 1 ≤ E) (hq : 1 ≤ q) (h : q ∣ E → a ^ (E / q) % n ≠ 1 % n) : q ∣ E / d → a ^ (E / d / q) % n ≠ 1 % n := fun hqd hQ => by
  obtain ⟨c, rfl⟩ := hd
  have d0 : 0 < d := Nat.pos_of_ne_zero fun e => by rw [e] at hE; simp at hE
  rw [Nat.mul_div_cancel_left _ d0] at hqd hQ
  obtain ⟨f, rfl⟩ := hqd
  rw [Nat.mul_div_cancel_left _ hq] at hQ
  refine h ⟨d * f, by rw [Nat.mul_left_comm]⟩ ?_
  rw [show d * (q * f) = q * (d * f) by rw [Nat.mul_left_comm], Nat.mul_div_cancel_left _ hq, Nat.mul_comm]
  exact one_mul hQ d
end IPL
end
section
set_option linter.all false
set_option maxRecDepth 8000
/-! Lat3: the least fraction of a row. -/
namespace IPL
theorem cop_p {p : Int} (hp : isPrime p) {g : Nat} (h0 : ¬ p ∣ (g : Int)) : Nat.Coprime p.toNat g := by
  have pr : Pr p.toNat := by
    rcases hp with rfl | rfl | rfl | rfl <;> refine ⟨by decide, fun d hd => ?_⟩ <;> have hle := Nat.le_of_dvd (by decide) hd <;> revert hd <;> revert d <;> decide
  refine pr_cop pr fun hd => h0 ?_
  obtain ⟨c, hc⟩ := hd
  have pp := prime_pos hp
  refine ⟨c, ?_⟩
  have := congrArg Int.ofNat hc
  simp only [Int.ofNat_eq_natCast, Int.natCast_mul] at this
  rw [Int.toNat_of_nonneg (by omega)] at this
  exact this
theorem least_cop {p : Int} (hp : isPrime p) {l : Nat} {w : Int} {x : Int × Int} (hx : InL (p ^ l) w x) (h2 : x.2 % p ≠ 0) (hmin : ∀ z, InL (p ^ l) w z → z.2 % p ≠ 0 → sz x ≤ sz z) : Nat.gcd x.1.natAbs x.2.natAbs = 1 := by
  have pp := prime_pos hp
  obtain ⟨g, hg⟩ : ∃ g, g = Nat.gcd x.1.natAbs x.2.natAbs := ⟨_, rfl⟩
  rw [← hg]
  have hx2 : x.2 ≠ 0 := fun h => by
    rw [h] at h2
    simp at h2
  have g0 : 0 < g := by
    rw [hg]
    exact Nat.gcd_pos_of_pos_right _ (by omega)
  have d1 : (g : Int) ∣ x.1 := by
    rw [hg]
    exact Int.ofNat_dvd_left.mpr (Nat.gcd_dvd_left ..)
  have d2 : (g : Int) ∣ x.2 := by
    rw [hg]
    exact Int.ofNat_dvd_left.mpr (Nat.gcd_dvd_right ..)
  obtain ⟨a, ha⟩ := d1
  obtain ⟨b, hb⟩ := d2
  have hpg : ¬ p ∣ (g : Int) := fun hd => h2 (Int.emod_eq_zero_of_dvd (by rw [hb]; exact Int.dvd_trans hd ⟨b, rfl⟩))
  have hbp : b % p ≠ 0 := fun h => h2 (by
    obtain ⟨c, hc⟩ := Int.dvd_of_emod_eq_zero h
    rw [hb, hc, Int.mul_left_comm]
    exact Int.mul_emod_right ..)
  obtain ⟨k, hk⟩ := hx
  have cop : Nat.Coprime g (p.toNat ^ l) := (Nat.Coprime.pow_left l (cop_p hp hpg)).symm
  have pl : p ^ l = ((p.toNat ^ l : Nat) : Int) := by rw [Int.natCast_pow, Int.toNat_of_nonneg (by omega)]
  have e1 : k * p ^ l = (g : Int) * (a - b * w) := by
    rw [Int.mul_sub, ← Int.mul_assoc, ← hb, ← ha]
    omega
  have dk : (g : Int) ∣ k := by
    have d3 : g ∣ k.natAbs * p.toNat ^ l := by
      have : (g : Int) ∣ k * p ^ l := ⟨_, e1⟩
      have := Int.natAbs_dvd_natAbs.mpr this
      rw [Int.natAbs_mul, pl, Int.natAbs_natCast, Int.natAbs_natCast] at this
      exact this
    exact Int.ofNat_dvd_left.mpr (cop.dvd_of_dvd_mul_right d3)
  obtain ⟨k', hk'⟩ := dk
  have gz : (g : Int) ≠ 0 := by omega
  have hz : InL (p ^ l) w (a, b) := ⟨k', by
    have : (g : Int) * a = (g : Int) * (b * w + k' * p ^ l) := by
      rw [Int.mul_add, ← Int.mul_assoc, ← Int.mul_assoc, ← hb, ← hk', ← ha]
      exact hk
    exact Int.eq_of_mul_eq_mul_left gz this⟩
  have m := hmin (a, b) hz hbp
  have hs : sz x = (g : Int) * sz (a, b) := by
    unfold sz
    rw [ha, hb, Int.natAbs_mul, Int.natAbs_mul, Int.natAbs_natCast, Int.natCast_mul, Int.natCast_mul]
    dsimp only
    have m1 : ∀ y : Nat, 0 ≤ (g : Int) * (y : Int) := fun y => Int.mul_nonneg (by omega) (by omega)
    rcases Int.le_total (a.natAbs : Int) (b.natAbs : Int) with h | h
    · rw [Int.max_eq_right h, Int.max_eq_right (Int.mul_le_mul_of_nonneg_left h (by omega))]
    · rw [Int.max_eq_left h, Int.max_eq_left (Int.mul_le_mul_of_nonneg_left h (by omega))]
  have hb0 : b ≠ 0 := fun h => by
    rw [h] at hbp
    simp at hbp
  have hs0 : 1 ≤ sz (a, b) := by
    unfold sz
    dsimp only
    omega
  rw [hs] at m
  have : ¬ 2 ≤ (g : Int) := fun h => by
    have := Int.mul_le_mul_of_nonneg_right h (show 0 ≤ sz (a, b) by omega)
    omega
  omega
/-- what the least fraction is known by -/
structure LeastF (p : Int) (row : List Int) (x : Int × Int) : Prop where
  inl : InL (p ^ row.length) (val p row) x
  pos : 1 ≤ x.2
  low : x.2 % p ≠ 0
  least : ∀ z, InL (p ^ row.length) (val p row) z → z.2 % p ≠ 0 → sz x ≤ sz z
theorem LeastF.cop {p : Int} (hp : isPrime p) {row : List Int} {x : Int × Int} (h : LeastF p row x) : Nat.gcd x.1.natAbs x.2.natAbs = 1 := least_cop hp h.inl h.low h.least
theorem InL.neg {P w : Int} {x : Int × Int} (h : InL P w x) : InL P w (-x.1, -x.2) := by
  obtain ⟨k, hk⟩ := h
  refine ⟨-k, ?_⟩
  dsimp only
  rw [hk, Int.neg_mul, Int.neg_mul]
  omega
theorem leastF_of {p : Int} (hp : isPrime p) {row : List Int} {u v : Int × Int} (B : Bas (p ^ row.length) (val p row) u v) (R : Red u v) {x : Int × Int} (hx : x = if u.2 % p ≠ 0 then u else v) : LeastF p row (if 0 < x.2 then x else (-x.1, -x.2)) := by
  have pp := prime_pos hp
  obtain ⟨h1, h2, h3⟩ := fit_least B R hx
  have h2 := h2 (by omega)
  have hx2 : x.2 ≠ 0 := fun h => by
    rw [h] at h2
    simp at h2
  by_cases c : 0 < x.2
  · rw [if_pos c]
    exact ⟨h1, c, h2, h3⟩
  · rw [if_neg c]
    refine ⟨h1.neg, by dsimp only; omega, ?_, fun z hz hzp => ?_⟩
    · dsimp only
      intro h
      apply h2
      have := Int.dvd_of_emod_eq_zero h
      exact Int.emod_eq_zero_of_dvd ((Int.dvd_neg).mp this)
    · rw [sz_neg]
      exact h3 z hz hzp
/-- its row begins so -/
theorem LeastF.row {p : Int} (hp : isPrime p) {row : List Int} (hn : nums p row) {x : Int × Int} (h : LeastF p row x) {m : Nat} (hm : IsInv p x.2 m) : figs p x.2 m row.length x.1 = row := by
  obtain ⟨k, hk⟩ := h.inl
  refine (figs_uniq hp hm row.length row x.1 k hn rfl ?_).symm
  rw [hk, Int.mul_comm x.2, Int.mul_comm k]
  omega
/-- the least fraction is no more than the whole -/
theorem LeastF.bound {p : Int} (hp : isPrime p) {row : List Int} (hn : nums p row) {x : Int × Int} (h : LeastF p row x) : sz x ≤ p ^ row.length := by
  have pp := prime_pos hp
  have b := val_bd hp row hn
  have := h.least (val p row, 1) ⟨0, by simp⟩ (by
    show 1 % p ≠ 0
    rw [Int.emod_eq_of_lt (by decide) (by omega)]
    decide)
  have q := pow_pos' hp row.length
  unfold sz at this
  dsimp only at this
  unfold sz
  omega
end IPL
end
section
set_option linter.all false
set_option maxRecDepth 8000
/-! Lat5: a fraction told back from enough of its row; longer rows have no less a fraction. -/
namespace IPL
theorem sz_le {z : Int × Int} : (z.1.natAbs : Int) ≤ sz z ∧ (z.2.natAbs : Int) ≤ sz z := by
  unfold sz
  omega
theorem cross_bd (x y : Int × Int) : ((x.1 * y.2 - y.1 * x.2).natAbs : Int) ≤ 2 * (sz x * sz y) := by
  have hx := sz_le (z := x)
  have hy := sz_le (z := y)
  have e1 : ((x.1 * y.2).natAbs : Int) ≤ sz x * sz y := by
    rw [Int.natAbs_mul, Int.natCast_mul]
    exact Int.mul_le_mul hx.1 hy.2 (by omega) (by omega)
  have e2 : ((y.1 * x.2).natAbs : Int) ≤ sz x * sz y := by
    rw [Int.natAbs_mul, Int.natCast_mul, Int.mul_comm]
    exact Int.mul_le_mul hx.2 hy.1 (by omega) (by omega)
  omega
theorem frac_eq {x y : Int × Int} (hx : Nat.gcd x.1.natAbs x.2.natAbs = 1) (hy : Nat.gcd y.1.natAbs y.2.natAbs = 1) (px : 1 ≤ x.2) (py : 1 ≤ y.2) (h : x.1 * y.2 = y.1 * x.2) : x = y := by
  have hn : x.1.natAbs * y.2.natAbs = y.1.natAbs * x.2.natAbs := by
    rw [← Int.natAbs_mul, ← Int.natAbs_mul, h]
  have d1 : y.2.natAbs ∣ x.2.natAbs := by
    have c : Nat.Coprime y.2.natAbs y.1.natAbs := by
      unfold Nat.Coprime
      rw [Nat.gcd_comm]
      exact hy
    exact c.dvd_of_dvd_mul_left ⟨x.1.natAbs, by rw [← hn, Nat.mul_comm]⟩
  have d2 : x.2.natAbs ∣ y.2.natAbs := by
    have c : Nat.Coprime x.2.natAbs x.1.natAbs := by
      unfold Nat.Coprime
      rw [Nat.gcd_comm]
      exact hx
    exact c.dvd_of_dvd_mul_left ⟨y.1.natAbs, by rw [hn, Nat.mul_comm]⟩
  have e := Nat.dvd_antisymm d1 d2
  have e2 : x.2 = y.2 := by omega
  rw [e2] at h
  exact Prod.ext (Int.eq_of_mul_eq_mul_right (by omega) h) e2
/-- the only small fraction of a lattice -/
theorem told_back {p : Int} (hp : isPrime p) {row : List Int} {x y : Int × Int} (L : LeastF p row x) (hy : InL (p ^ row.length) (val p row) y) (cy : Nat.gcd y.1.natAbs y.2.natAbs = 1) (py : 1 ≤ y.2) (ly : y.2 % p ≠ 0) (hb : 2 * (sz y * sz y) < p ^ row.length) : x = y := by
  have le := L.least y hy ly
  obtain ⟨a, ha⟩ := L.inl
  obtain ⟨b, hb'⟩ := hy
  refine frac_eq (L.cop hp) cy L.pos py ?_
  have c := cross_bd x y
  have m := Int.mul_le_mul_of_nonneg_right le (sz_nn y)
  have e : x.1 * y.2 - y.1 * x.2 = p ^ row.length * (a * y.2 - b * x.2) := by
    rw [ha, hb']
    simp only [Int.add_mul, Int.mul_sub]
    rw [show x.2 * val p row * y.2 = y.2 * val p row * x.2 by rw [Int.mul_assoc, Int.mul_comm, Int.mul_comm (val p row)], show a * p ^ row.length * y.2 = p ^ row.length * (a * y.2) by rw [Int.mul_comm a, Int.mul_assoc], show b * p ^ row.length * x.2 = p ^ row.length * (b * x.2) by rw [Int.mul_comm b, Int.mul_assoc]]
    omega
  have P0 := pow_pos' hp row.length
  generalize p ^ row.length = P at *
  generalize a * y.2 - b * x.2 = j at *
  have hj : j = 0 := by
    by_cases h1 : 0 < j
    · have := Int.mul_le_mul_of_nonneg_left (show 1 ≤ j by omega) (show 0 ≤ P by omega)
      omega
    · by_cases h2 : j < 0
      · have := Int.mul_le_mul_of_nonneg_left (show j ≤ -1 by omega) (show 0 ≤ P by omega)
        omega
      · omega
  rw [hj, Int.mul_zero] at e
  omega
theorem figs_inl {p l : Int} {m : Nat} (hp : isPrime p) (h : IsInv p l m) (n : Nat) (a : Int) : InL (p ^ (figs p l m n a).length) (val p (figs p l m n a)) (a, l) := by
  obtain ⟨t, ht⟩ := figs_val hp h n a
  rw [figs_len]
  refine ⟨t, ?_⟩
  dsimp only
  rw [Int.mul_comm l, Int.mul_comm t]
  omega
theorem val_appL (p : Int) : ∀ a b : List Int, val p (a ++ b) = val p a + p ^ a.length * val p b
  | [], b => by simp [val_nil]
  | x :: a, b => by
    rw [List.cons_append, val_cons, val_appL p a b, val_cons, List.length_cons, Int.pow_succ, Int.add_mul]
    rw [show p ^ a.length * p * val p b = p ^ a.length * val p b * p by rw [Int.mul_assoc, Int.mul_comm p, Int.mul_assoc]]
    omega
theorem inl_take {p : Int} {row : List Int} {i j : Nat} (hij : i ≤ j) (hj : j ≤ row.length) {z : Int × Int} (h : InL (p ^ (row.take j).length) (val p (row.take j)) z) : InL (p ^ (row.take i).length) (val p (row.take i)) z := by
  obtain ⟨k, hk⟩ := h
  have e : row.take j = row.take i ++ (row.drop i).take (j - i) := by
    rw [← List.take_add]
    congr 1
    omega
  have li : (row.take i).length = i := by rw [List.length_take]; omega
  have lj : (row.take j).length = j := by rw [List.length_take]; omega
  have v := val_appL p (row.take i) ((row.drop i).take (j - i))
  rw [← e, li] at v
  rw [lj, v] at hk
  have ep : p ^ j = p ^ i * p ^ (j - i) := by
    rw [← Int.pow_add]
    congr 1
    omega
  rw [li]
  refine ⟨z.2 * val p ((row.drop i).take (j - i)) + k * p ^ (j - i), ?_⟩
  rw [hk, ep]
  simp only [Int.mul_add, Int.add_mul]
  rw [show z.2 * (p ^ i * val p ((row.drop i).take (j - i))) = z.2 * val p ((row.drop i).take (j - i)) * p ^ i by rw [Int.mul_comm (p ^ i), Int.mul_assoc], show k * (p ^ i * p ^ (j - i)) = k * p ^ (j - i) * p ^ i by rw [Int.mul_comm (p ^ i), Int.mul_assoc]]
  omega
theorem least_mono {p : Int} {row : List Int} {i j : Nat} (hij : i ≤ j) (hj : j ≤ row.length) {x y : Int × Int} (hx : LeastF p (row.take i) x) (hy : LeastF p (row.take j) y) : sz x ≤ sz y := hx.least y (inl_take hij hj hy.inl) hy.low
theorem least_one {p : Int} {row : List Int} {x : Int × Int} (h : LeastF p row x) : 1 ≤ sz x := by
  have := h.pos
  have := sz_le (z := x)
  omega
end IPL
end
section
set_option linter.all false
set_option maxRecDepth 100000
set_option maxHeartbeats 1000000
namespace IPL
open IP
open PySem (PyData)
local macro_rules | `(tactic| infer_instance) => `(tactic| ((repeat' (first | with_reducible exact rfl | with_reducible assumption | with_reducible apply EV.bo_nt | with_reducible apply EV.bo_nf | with_reducible refine decide_eq_true ?_ | with_reducible refine decide_eq_false ?_ | with_reducible apply EV.bne_t | with_reducible apply EV.bne_f | omega)); done))
local macro_rules | `(tactic| and_intros) => `(tactic| repeat' (first
  | with_reducible assumption
  | ((with_reducible apply EV.gdO); first
      | with_reducible apply EV.o_V
      | ((with_reducible apply EV.o_var); (with_reducible apply EV.get_of); exact rfl)
      | ((with_reducible apply EV.o_own); (with_reducible apply EV.get_of); exact rfl)
      | ((with_reducible apply EV.o_prm); (with_reducible apply EV.get_of); exact rfl))
  | ((with_reducible apply EV.gdV); first
      | with_reducible exact EV.e_C
      | ((with_reducible apply EV.e_var); (with_reducible apply EV.get_of); exact rfl)
      | ((with_reducible apply EV.e_varO); ((with_reducible apply EV.get_of); exact rfl))
      | with_reducible apply EV.e_bin
      | ((with_reducible apply EV.e_call); (focus (and_intros; done)); (focus (and_intros; done)); ((with_reducible apply EV.any_of); exact rfl))
      | ((with_reducible apply EV.e_callD); (focus (and_intros; done)); (focus (and_intros; done)); (focus (and_intros; done)); first | with_reducible exact EV.noT | with_reducible exact EV.noI | with_reducible exact EV.noB | with_reducible exact EV.noN | with_reducible assumption | exact EV.noT)
      | with_reducible apply EV.e_bi
      | (with_reducible apply EV.e_sl)
      | with_reducible apply EV.e_tup
      | with_reducible apply EV.e_un
      | ((with_reducible apply EV.e_callRo); ((with_reducible apply EV.ow_o); (with_reducible apply EV.get_of); exact rfl))
      | ((with_reducible apply EV.e_callRp); ((with_reducible apply EV.ow_p); (with_reducible apply EV.get_of); exact rfl))
      | with_reducible apply EV.e_lc
      | ((with_reducible apply EV.andV_t); (focus infer_instance))
      | ((with_reducible apply EV.andV_f); (focus infer_instance))
      | ((with_reducible apply EV.orV_f); (focus infer_instance))
      | ((with_reducible apply EV.orV_t); (focus infer_instance))
      | ((with_reducible apply EV.iteV_t); (focus infer_instance))
      | ((with_reducible apply EV.iteV_f); (focus infer_instance))
      | ((with_reducible apply EV.chK_t); (focus infer_instance))
      | ((with_reducible apply EV.chK_f); (focus infer_instance))
      | ((with_reducible apply EV.e_fld); (focus (and_intros; done)); (focus exact rfl); (focus exact rfl))
      | ((with_reducible apply EV.e_flen); (focus (and_intros; done)))
      | ((with_reducible apply EV.e_ftup); (focus (and_intros; done)))
      | ((with_reducible apply EV.e_fix); (focus (and_intros; done)); (focus ((with_reducible apply EV.get_of); exact rfl)))
      | ((with_reducible apply EV.e_meth); (focus (and_intros; done)); (focus (and_intros; done)); (focus (and_intros; done)); (focus (and_intros; done)))
      | ((with_reducible apply EV.e_callNF); (focus (and_intros; done)); (focus (and_intros; done)); (focus ((with_reducible apply EV.prop_of); with_reducible assumption)); (focus exact rfl); (focus exact rfl))
      | ((with_reducible apply EV.e_callNM); (focus (and_intros; done)); (focus (and_intros; done)))
      | with_reducible apply EV.e_lc2
      | with_reducible apply EV.e_lst
      | with_reducible apply EV.e_not
      | with_reducible apply EV.e_and
      | with_reducible apply EV.e_or
      | with_reducible apply EV.e_ite
      | (with_reducible apply EV.e_chain)
      | with_reducible exact EV.e_dnew
      | with_reducible exact EV.e_disp
      | ((with_reducible apply EV.e_dixV); (focus (and_intros; done)); (focus (and_intros; done)); (focus (and_intros; done)); (focus (first | with_reducible assumption | exact rfl)))
      | ((with_reducible apply EV.e_din); (focus (and_intros; done)); (focus (and_intros; done)); (focus (first | with_reducible assumption | exact rfl)))
      | ((with_reducible apply EV.e_dnin); (focus (and_intros; done)); (focus (and_intros; done)); (focus (first | with_reducible assumption | exact rfl)))
      | ((with_reducible apply EV.e_dget); (focus (and_intros; done)); (focus (and_intros; done)); (focus (and_intros; done)); (focus (and_intros; done)); (focus (first | with_reducible assumption | exact rfl))))
  | ((with_reducible apply EV.gdG); first
      | ((with_reducible apply EV.get_of); exact rfl))
  | ((with_reducible apply EV.gdD); first
      | with_reducible exact EV.rd_v
      | with_reducible apply EV.rd_o
      | with_reducible apply EV.rd_p)
  | ((with_reducible apply EV.gdA); first
      | with_reducible exact EV.a_n
      | ((with_reducible apply EV.a_app); (focus (and_intros; done)))
      | with_reducible apply EV.a_c)
  | ((with_reducible apply EV.gdR); first
      | ((with_reducible apply EV.gdRb); first
      | ((with_reducible apply EV.gh_bIx); first | ((with_reducible apply EV.p_ixNegM) <;> first | assumption | omega) | ((with_reducible apply EV.p_ix0); first | assumption | omega) | with_reducible exact EV.p_ix20 | with_reducible exact EV.p_ix21 | with_reducible exact EV.p_ix30 | with_reducible exact EV.p_ix31 | with_reducible exact EV.p_ix32 | ((with_reducible apply EV.p_ixLastT); assumption) | ((with_reducible apply EV.p_ixNegT); first | assumption | omega) | ((with_reducible apply EV.p_ixNegL); first | assumption | omega) | ((with_reducible apply EV.p_ixT); first | assumption | omega) | ((with_reducible apply EV.p_ixL); first | assumption | omega) | ((with_reducible apply EV.p_ixT') <;> first | assumption | omega) | ((with_reducible apply EV.p_ixL') <;> first | assumption | omega) | ((with_reducible apply IPL.p_ixTT); first | assumption | omega) | ((with_reducible apply IPL.p_ixLT); first | assumption | omega) | ((with_reducible apply EV.p_ixDT); first | assumption | omega) | ((with_reducible apply EV.p_ixDL); first | assumption | omega))
      | ((with_reducible apply EV.gh_bAdd); first | with_reducible exact EV.p_add | ((with_reducible apply EV.p_addT); (with_reducible apply EV.line_of); first | assumption | omega) | ((with_reducible apply EV.p_addL); (with_reducible apply EV.line_of); first | assumption | omega) | ((with_reducible apply EV.p_addsL); first | assumption | omega) | ((with_reducible apply EV.p_addTs); (with_reducible apply EV.line_of); first | assumption | omega) | ((with_reducible apply EV.p_addsT); (with_reducible apply EV.line_of); first | assumption | omega))
      | with_reducible exact EV.p_sub
      | ((with_reducible apply EV.p_mod); first | assumption | omega)
      | ((with_reducible apply EV.gh_bMul); first | ((with_reducible apply EV.p_repL) <;> omega) | ((with_reducible apply EV.p_repT) <;> omega) | ((with_reducible apply EV.p_mulL); first | assumption | omega) | ((with_reducible apply EV.p_mulR); first | assumption | omega) | ((with_reducible apply EV.p_mulB); first | assumption | omega))
      | ((with_reducible apply EV.p_fdiv) <;> first | assumption | omega)
      | ((with_reducible apply EV.p_fdivB) <;> first | assumption | omega)
      | ((with_reducible apply EV.gh_bPow); first | with_reducible exact EV.p_pow12 | with_reducible exact EV.p_pow17 | with_reducible exact EV.p_pow60 | with_reducible exact EV.p_pow15 | with_reducible exact EV.p_pow18)
      | with_reducible exact EV.p_lt
      | with_reducible exact EV.p_le
      | with_reducible exact EV.p_gt
      | with_reducible exact EV.p_ge
      | ((with_reducible apply EV.gh_bEq); first | with_reducible exact EV.p_eq | with_reducible exact IPL.p_eqT | with_reducible exact IPL.p_eqT1 | with_reducible exact IPL.p_eqL | with_reducible exact IPL.p_eqL0 | with_reducible exact IPL.p_eqT0 | with_reducible exact IPL.p_eqL1 | with_reducible exact IPL.p_eqTT | with_reducible exact IPL.p_eqLT | with_reducible exact EV.p_eqB)
      | ((with_reducible apply EV.gh_bNe); first | with_reducible exact EV.p_ne | with_reducible exact IPL.p_neT | with_reducible exact IPL.p_neT1 | with_reducible exact IPL.p_neL | with_reducible exact IPL.p_neT0 | with_reducible exact IPL.p_neL1 | with_reducible exact IPL.p_neTT | with_reducible exact IPL.p_neLT | with_reducible exact IPL.p_neL0 | with_reducible exact EV.p_neB)
      | ((with_reducible apply EV.p_xor) <;> first | assumption | omega)
      | with_reducible exact EV.p_shrN
      | with_reducible exact EV.p_and1
      | ((with_reducible apply EV.p_and) <;> first | assumption | omega))
      | ((with_reducible apply EV.gdRi); first
      | ((with_reducible apply EV.gh_biLen); first | with_reducible exact EV.b_len2 | with_reducible exact EV.b_len3 | with_reducible exact EV.b_lenT | with_reducible exact EV.b_lenL | with_reducible exact EV.b_lenT' | with_reducible exact EV.b_lenL')
      | with_reducible exact EV.b_int
      | with_reducible exact EV.b_intB
      | with_reducible exact EV.b_tupL
      | with_reducible exact EV.b_tupT
      | with_reducible exact EV.b_lstL
      | with_reducible exact EV.b_lstT
      | with_reducible exact EV.b_sum
      | with_reducible exact EV.b_sum2L
      | with_reducible exact EV.b_sum2T
      | with_reducible exact EV.b_any2L
      | with_reducible exact EV.b_abs
      | with_reducible exact EV.b_max
      | with_reducible exact EV.b_min
      | with_reducible exact EV.b_gcd)
      | ((with_reducible apply EV.gdRu); first
      | ((with_reducible apply EV.gh_uIs); first | with_reducible exact EV.is_ii | with_reducible exact EV.is_bi | with_reducible exact EV.is_tt | with_reducible exact EV.is_tl | with_reducible exact EV.is_lt | with_reducible exact EV.is_ll)
      | ((with_reducible apply EV.gh_uIsN); first | with_reducible exact EV.uisn | with_reducible exact EV.uisn_i | with_reducible exact EV.uisn_t)
      | ((with_reducible apply EV.gh_uNotN); first | with_reducible exact EV.unn | with_reducible exact EV.unn_i | with_reducible exact EV.unn_t)
      | with_reducible exact EV.p_bitsN
      | with_reducible exact EV.p_neg
      | with_reducible exact EV.p_revT
      | with_reducible exact EV.p_revL
      | with_reducible exact EV.p_tupRev)
      | ((with_reducible apply EV.gh_cutR); first | with_reducible exact EV.cut_to1 | with_reducible exact EV.cut_to1L | with_reducible exact EV.cut_fr1 | with_reducible exact EV.cut_fr1L | with_reducible exact EV.cut_toT | with_reducible exact EV.cut_toL | with_reducible exact EV.cut_frT | with_reducible exact EV.cut_frL | with_reducible exact EV.cut_lastT | with_reducible exact EV.cut_last1 | with_reducible exact EV.cut_last1L | ((with_reducible apply EV.cut_toI); first | assumption | omega) | ((with_reducible apply EV.cut_frI); first | assumption | omega) | with_reducible exact EV.cut_lastL)
      | ((with_reducible apply EV.gh_outR); first | with_reducible exact EV.or_n | with_reducible exact EV.or_r | ((with_reducible apply EV.or_of); exact rfl) | ((with_reducible apply EV.or_bt); focus infer_instance)))
  | ((with_reducible apply EV.gdS); first
      | with_reducible apply EV.s_seq
      | ((with_reducible apply EV.gh_seqK); first | with_reducible exact EV.q_rt | with_reducible apply EV.q_nx | with_reducible exact EV.q_bk | with_reducible exact EV.q_ct | with_reducible exact EV.q_ro)
      | with_reducible apply EV.s_set
      | with_reducible apply EV.s_if
      | ((with_reducible apply EV.if_t); (focus infer_instance))
      | ((with_reducible apply EV.if_f); (focus infer_instance))
      | with_reducible exact EV.s_pass
      | with_reducible apply EV.s_ret
      | with_reducible apply EV.s_ex
      | ((with_reducible apply EV.s_appI); ((with_reducible apply EV.ow_o); (with_reducible apply EV.get_of); exact rfl); (focus (and_intros; done)); ((with_reducible apply EV.get_of); exact rfl))
      | ((with_reducible apply EV.s_appO); ((with_reducible apply EV.ow_o); (with_reducible apply EV.get_of); exact rfl))
      | ((with_reducible apply EV.s_fld); (focus (and_intros; done)); (focus (and_intros; done)); (focus exact rfl); (focus (and_intros; done)); (focus exact rfl); (focus exact rfl))
      | ((with_reducible apply EV.s_faug); (focus (and_intros; done)); (focus exact rfl); (focus exact rfl); (focus (and_intros; done)); (focus (and_intros; done)); (focus exact rfl); (focus exact rfl))
      | ((with_reducible apply EV.s_fapp); (focus (and_intros; done)); (focus ((with_reducible apply EV.get_of); exact rfl)); (focus (first | assumption | omega)))
      | ((with_reducible apply EV.s_callN); (focus (and_intros; done)); (focus (and_intros; done)))
      | ((with_reducible apply EV.s_retG); ((with_reducible apply EV.get_of); exact rfl))
      | with_reducible exact EV.s_brk
      | with_reducible exact EV.s_cnt
      | with_reducible exact EV.s_retN
      | with_reducible apply EV.s_unp
      | with_reducible apply EV.s_par
      | ((with_reducible apply EV.s_augI); ((with_reducible apply EV.get_of); exact rfl))
      | ((with_reducible apply EV.s_setIxN); (focus (and_intros; done)); (focus ((with_reducible apply EV.ow_o); (with_reducible apply EV.get_of); exact rfl)); (focus (and_intros; done)); (focus ((with_reducible apply EV.get_of); exact rfl)); (focus (first | assumption | omega)))
      | ((with_reducible apply EV.s_setIxI); (focus (and_intros; done)); (focus ((with_reducible apply EV.ow_o); (with_reducible apply EV.get_of); exact rfl)); (focus (and_intros; done)); (focus ((with_reducible apply EV.get_of); exact rfl)); (focus (first | assumption | omega)))
      | ((with_reducible apply EV.s_augIxN); (focus ((with_reducible apply EV.ow_o); (with_reducible apply EV.get_of); exact rfl)); (focus (and_intros; done)); (focus ((with_reducible apply EV.get_of); exact rfl)); (focus (and_intros; done)); (focus ((with_reducible apply EV.get_of); exact rfl)); (focus (first | assumption | omega)))
      | ((with_reducible apply EV.s_pop); (focus ((with_reducible apply EV.get_of); exact rfl)); (focus assumption))
      | ((with_reducible apply EV.s_setIx); (focus (and_intros; done)); ((with_reducible apply EV.ow_o); (with_reducible apply EV.get_of); exact rfl); (focus (and_intros; done)); ((with_reducible apply EV.get_of); exact rfl))
      | with_reducible apply EV.s_for
      | with_reducible apply EV.s_while
      | ((with_reducible apply EV.s_dset); (focus (and_intros; done)); (focus (and_intros; done)); (focus (and_intros; done)); (focus (and_intros; done)); (focus (and_intros; done)); (focus (first | with_reducible assumption | exact rfl))))
  | ((with_reducible apply EV.gdL); first
      | ((with_reducible apply EV.gP); ((with_reducible apply EV.get_of); exact rfl))
      | ((with_reducible apply EV.gO); ((with_reducible apply EV.get_of); exact rfl))
      | with_reducible exact EV.ra_n
      | with_reducible apply EV.ra_c
      | with_reducible exact EV.vs_n
      | with_reducible apply EV.vs_c)
  | ((with_reducible apply EV.gdE); first
      | ((with_reducible apply EV.gh_setSlot); first | with_reducible exact EV.st_0u | with_reducible exact EV.st_0d | with_reducible exact EV.st_0o | ((with_reducible apply EV.st_0f); first | assumption | exact EV.fr_d | exact EV.fr_u) | ((with_reducible apply EV.st_0g); assumption) | with_reducible apply EV.st_s | with_reducible exact EV.st_0k)
      | with_reducible exact EV.u_n
      | ((with_reducible apply EV.u_u); ((with_reducible apply EV.get_of); exact rfl))
      | ((with_reducible apply EV.u_d); ((with_reducible apply EV.get_of); exact rfl))
      | with_reducible apply EV.t_nm
      | with_reducible apply EV.t_tup
      | with_reducible exact EV.sd_n
      | with_reducible apply EV.sd_c
      | with_reducible exact EV.sr_n
      | with_reducible apply EV.sr_c)
  | ((with_reducible apply EV.gdT); first
      | with_reducible apply EV.t_B
      | with_reducible apply EV.t_V
      | with_reducible apply EV.t_not
      | with_reducible apply EV.t_and
      | with_reducible apply EV.t_or
      | ((with_reducible apply EV.orT_f); (focus infer_instance))
      | ((with_reducible apply EV.orT_t); (focus infer_instance))
      | ((with_reducible apply EV.andT_t); (focus infer_instance))
      | ((with_reducible apply EV.andT_f); (focus infer_instance)))
  | ((with_reducible apply EV.gdLs); first
      | with_reducible exact EV.ls_0
      | with_reducible apply EV.ls_s)
  | ((with_reducible apply EV.gdSl); first
      | with_reducible exact EV.so_d
      | with_reducible exact EV.so_n
      | with_reducible exact EV.so_nd)
  | ((with_reducible apply EV.gdBo); first
      | with_reducible exact EV.stl_n
      | ((with_reducible apply EV.stl_o); (with_reducible apply EV.get_of); exact rfl)
      | ((with_reducible apply EV.bo_nf); focus infer_instance)
      | ((with_reducible apply EV.bo_nt); focus infer_instance))
  | ((with_reducible apply EV.gdEn); first
      | ((with_reducible apply EV.pP); (focus ((with_reducible apply EV.get_of); exact rfl)))
      | ((with_reducible apply EV.pO); (focus ((with_reducible apply EV.get_of); exact rfl)))
      | with_reducible exact EV.ba_n
      | ((with_reducible apply EV.ba_c); ((with_reducible apply EV.get_of); exact rfl)))
  | ((with_reducible apply EV.gdDd); first
      | with_reducible exact EV.td_d
      | with_reducible exact EV.td_n
      | with_reducible exact EV.td_nd)
  | ((with_reducible apply EV.gdI); first
      | ((with_reducible apply EV.i_r1); (focus (and_intros; done)); omega)
      | ((with_reducible apply EV.i_r1'); (focus (and_intros; done)); omega; omega)
      | ((with_reducible apply EV.i_r2); (focus (and_intros; done)); (focus (and_intros; done)); omega; omega; omega; omega)
      | ((with_reducible apply EV.i_rT); (focus (and_intros; done)))
      | ((with_reducible apply EV.i_rL); (focus (and_intros; done)))
      | ((with_reducible apply EV.i_zT); (focus (and_intros; done)); (focus (and_intros; done)))
      | ((with_reducible apply EV.i_zL); (focus (and_intros; done)); (focus (and_intros; done)))
      | ((with_reducible apply EV.i_enT); (focus (and_intros; done)))
      | ((with_reducible apply EV.i_enL); (focus (and_intros; done)))
      | ((with_reducible apply EV.i_rr1); (focus (and_intros; done)); omega)
      | ((with_reducible apply EV.i_ET); (focus (and_intros; done)))
      | ((with_reducible apply EV.i_E); (focus (and_intros; done)))
      | ((with_reducible apply EV.i_EO); (focus (and_intros; done)); (focus (and_intros; done))))
  | ((with_reducible apply EV.gdTr); first
      | ((with_reducible apply EV.gh_truth); first | with_reducible exact EV.tr_b | with_reducible exact EV.tr_T | with_reducible exact EV.tr_L | with_reducible exact EV.tr_i | with_reducible exact EV.tr_n))
  | ((with_reducible apply EV.gdLc); first
      | ((with_reducible apply EV.l_intR); (intro _ _; with_reducible apply EV.lt_y))
      | ((with_reducible apply EV.l_int); (intro _ _; with_reducible apply EV.lt_y)))
  | ((with_reducible apply EV.gdP); first
      | with_reducible exact EV.pe_n
      | with_reducible apply EV.pe_c)
  | ((with_reducible apply EV.gdPo); first
      | with_reducible exact EV.pn
      | with_reducible apply EV.ps)
  | ((with_reducible apply EV.line_of); first | assumption | (simp only [List.length_map, List.length_range, List.length_append, List.length_cons, List.length_nil, List.length_reverse, List.length_zip, List.length_take, List.length_drop, List.length_dropLast]; omega))
  | ((with_reducible apply EV.line_lt); first | assumption | (simp only [List.length_map, List.length_range, List.length_append, List.length_cons, List.length_nil, List.length_reverse, List.length_zip, List.length_take, List.length_drop, List.length_dropLast]; omega))
  | ((with_reducible apply EV.dctI_of); ((with_reducible apply EV.get_of); exact rfl))))
theorem I_is_between (n : Nat) (v a b : Int) : run (n + 1) "is_between" none [.int v, .int a, .int b] = some (.dat (.bool (decide (a ≤ v ∧ v ≤ b))), none) := by
  rw [run_is_between]
  simp [F_is_between]
  split <;> simp_all <;> omega
theorem I_are_numbers (n : Nat) (p most : Int) (xs : List Int) (hl : xs.length ≤ 1000) : run (n + 2) "are_numbers" none [.int p, iT xs, .int most] = some (.dat (.bool (numsB p most xs)), none) := by
  rw [run_are_numbers]
  simp [F_are_numbers, numsB]
  by_cases h : most < (xs.length : Int)
  · simp [h]
  · have hs : xs.length ≤ 16000000 := by omega
    simp [h, hs]
    rw [lcGo_map .int (fun x => .bool (decide (0 ≤ x ∧ x ≤ p - 1))) rfl xs (fun x _ => by simp [I_is_between])]
    simp
theorem I_numbers_ok (n : Nat) {p most : Int} {xs : List Int} (h : nums p xs) (hl : (xs.length : Int) ≤ most) (h2 : most ≤ 1000) : run (n + 2) "are_numbers" none [.int p, iT xs, .int most] = some (.dat (.bool true), none) := by
  rw [I_are_numbers n p most xs (by omega), numsB_of h hl]
theorem I_check_prime (n : Nat) {p : Int} (h : isPrime p) : run (n + 2) "check_prime" none [.int p] = some (.dat .none, none) := by
  rw [run_check_prime]
  rcases h with rfl | rfl | rfl | rfl <;> simp [F_check_prime, I_is_between, intsOf]
theorem I_check_number (n : Nat) {v a b : Int} (h1 : a ≤ v) (h2 : v ≤ b) : run (n + 2) "check_number" none [.int v, .int a, .int b] = some (.dat .none, none) := by
  have e := I_is_between n v a b
  rw [decide_eq_true ⟨h1, h2⟩] at e
  apply go_check_number
  and_intros
theorem I_check_row (n : Nat) {p : Int} {xs : List Int} (h : nums p xs) (hl : xs.length ≤ 400) : run (n + 3) "check_row" none [.int p, iT xs] = some (.dat .none, none) := by
  have e := I_numbers_ok n (most := 400) h (by omega) (by omega)
  apply go_check_row
  and_intros
theorem I_taken (n : Nat) {ns : List Int} {xs : List D} (h : RowOk ns xs) {m : Int} (hm : okM m) : ∃ k xs', run (n + 1) "_law_taken" (some xs) [.int m] = some (.dat (.int k), some xs') ∧ (0 ≤ k ∧ k < m) ∧ RowOk ns xs' := by
  obtain ⟨a, b, c, rfl, ha⟩ := h
  obtain ⟨h0, h1⟩ := hm
  rw [run__law_taken]
  have hm : ∀ x : Int, 0 ≤ x % m ∧ x % m < m := fun x => ⟨Int.emod_nonneg _ (by omega), Int.emod_lt_of_pos _ h0⟩
  by_cases hc : 0 < c
  · refine ⟨c % m, [scr ns, .int a, .int b, .int (c / m)], ?_, hm c, a, b, c / m, rfl, ha⟩
    simp [F__law_taken, atD4_0, atD4_1, atD4_2, atD4_3, ixN4_1, ixN4_2, ixN4_3, hc, h0, h1]
  · by_cases hl : (ns.length : Int) < a + 1
    · refine ⟨((b * 48271 + 11) % 2147483647 / 7) % m, [scr ns, .int (a + 1), .int ((b * 48271 + 11) % 2147483647), .int c], ?_, hm _, a + 1, _, c, rfl, by omega⟩
      simp [F__law_taken, atD4_0, atD4_1, atD4_2, atD4_3, ixN4_1, ixN4_2, ixN4_3, hc, h0, h1, scr, hl]
    · obtain ⟨a', rfl⟩ : ∃ a' : Nat, (a' : Int) = a := ⟨a.toNat, by omega⟩
      have hl' : a' < ns.length := by omega
      have e1 : IP.ixN ns.length (a' : Int) = some a' := ixN_nat hl'
      obtain ⟨v, e2⟩ : ∃ v, ns[a']? = some v := ⟨ns[a'], List.getElem?_eq_getElem hl'⟩
      by_cases hv : 1000000000000000000 ≤ v
      · refine ⟨v % m, [scr ns, .int ((a' : Int) + 1), .int ((b * 48271 + v + 11) % 2147483647), .int (v / m)], ?_, hm _, _, _, _, rfl, by omega⟩
        simp [F__law_taken, atD4_0, atD4_1, atD4_2, atD4_3, ixN4_1, ixN4_2, ixN4_3, hc, h0, h1, scr, hl, e1, e2, hv]
      · refine ⟨v % m, [scr ns, .int ((a' : Int) + 1), .int ((b * 48271 + v + 11) % 2147483647), .int c], ?_, hm _, _, _, _, rfl, by omega⟩
        simp [F__law_taken, atD4_0, atD4_1, atD4_2, atD4_3, ixN4_1, ixN4_2, ixN4_3, hc, h0, h1, scr, hl, e1, e2, hv]
theorem I_pick (n : Nat) {ns : List Int} {xs : List D} (h : RowOk ns xs) {cs : List Int} (h0 : 0 < cs.length) (h1 : cs.length < 1073741824) : ∃ v xs', run (n + 2) "_law_pick" (some xs) [iL cs] = some (.dat (.int v), some xs') ∧ v ∈ cs ∧ RowOk ns xs' := by
  obtain ⟨k, xs1, e1, hk, hx1⟩ := I_taken n h (m := cs.length) (okM_s (by omega) (by omega))
  obtain ⟨k', rfl⟩ : ∃ k' : Nat, (k' : Int) = k := ⟨k.toNat, by omega⟩
  have hl : k' < cs.length := by omega
  have e2 : IP.ixN cs.length (k' : Int) = some k' := ixN_nat hl
  have e3 : cs[k']? = some cs[k'] := List.getElem?_eq_getElem hl
  refine ⟨cs[k'], xs1, ?_, List.getElem_mem hl, hx1⟩
  rw [run__law_pick]
  simp [F__law_pick, e1, e2, e3]
theorem I_prime (n : Nat) {ns : List Int} {xs : List D} (h : RowOk ns xs) : ∃ p xs', run (n + 3) "_law_prime" (some xs) [] = some (.dat (.int p), some xs') ∧ isPrime p ∧ RowOk ns xs' := by
  obtain ⟨v, xs1, e1, hv, hx1⟩ := I_pick n h (cs := [2, 2, 3, 5, 7]) (by decide) (by decide)
  simp only [iL, List.map_cons, List.map_nil] at e1
  refine ⟨v, xs1, ?_, ?_, hx1⟩
  · rw [run__law_prime]
    simp [F__law_prime, e1, line]
  · simp at hv
    unfold isPrime
    omega
theorem alike_seq (n : Nat) {d : D} {ds : List D} (hd : d = .tuple ds ∨ d = .list ds) (hl : ds.length ≤ 1000000) (h : ∀ k, k < ds.length → run (n + 1) "_law_alike" none [ds.getD k .none, ds.getD k .none] = some (.dat (.bool true), none)) : run (n + 2) "_law_alike" none [d, d] = some (.dat (.bool true), none) := by
  have hb : biLen [d] = some (.dat (.int (ds.length : Int))) := by rcases hd with rfl | rfl <;> rfl
  have e1 : vLc [2] (iRange1 (oV (vBi biLen (aCons (oVar 1) aNil)))) (.nm 2) (W__law_alike_2 (run (n + 1))) (W__law_alike_1 (run (n + 1))) [.dat d, .dat d, .un] = some (.new [], [.dat d, .dat d, .un]) := by
    have h := lcGo_pure (vs := [2]) (g := .nm 2) (t := W__law_alike_2 (run (n + 1))) (e := W__law_alike_1 (run (n + 1))) (src := (List.range ds.length).map EV.encN) (ow := none) (δ := [.dat d, .dat d, .un]) EV.encN (fun _ => none) rfl (List.range ds.length) (by
      intro k hk
      have hk' := List.mem_range.mp hk
      have e := h k hk'
      have hx : bIx d (.int (k : Int)) = some (.dat (ds.getD k .none)) := by
        rcases hd with rfl | rfl
        · exact EV.p_ixDT hk'
        · exact EV.p_ixDL hk'
      apply EV.lt_f
      and_intros)
    rw [List.filterMap_eq_nil_iff.mpr fun _ _ => rfl] at h
    apply EV.e_lc
    and_intros
  have u1 : uIs [.tuple, .list] d = some (.dat (.bool true)) := by rcases hd with rfl | rfl <;> rfl
  obtain ⟨b, u2⟩ : ∃ b, uIs [.list] d = some (.dat (.bool b)) := by
    rcases hd with rfl | rfl
    · exact ⟨false, rfl⟩
    · exact ⟨true, rfl⟩
  have u3 : bNe (.bool b) (.bool b) = some (.dat (.bool false)) := by
    rw [EV.p_neB]
    cases b <;> rfl
  have u4 : bNe (.int (ds.length : Int)) (.int (ds.length : Int)) = some (.dat (.bool false)) := by
    rw [EV.p_ne, decide_eq_true rfl]
    rfl
  apply go__law_alike
  and_intros
theorem I_alike_int (n : Nat) (v : Int) : run (n + 1) "_law_alike" none [.int v, .int v] = some (.dat (.bool true), none) := by
  rw [run__law_alike]
  simp [F__law_alike]
theorem I_alike_none (n : Nat) : run (n + 1) "_law_alike" none [.none, .none] = some (.dat (.bool true), none) := by
  rw [run__law_alike]
  simp [F__law_alike]
theorem I_alike_bool (n : Nat) (b : Bool) : run (n + 1) "_law_alike" none [.bool b, .bool b] = some (.dat (.bool true), none) := by
  rw [run__law_alike]
  simp [F__law_alike]
theorem I_alike (n : Nat) : ∀ (k : Nat) (d : D), EV.okA k d = true → run (n + k + 1) "_law_alike" none [d, d] = some (.dat (.bool true), none) := by
  intro k
  induction k with
  | zero =>
    intro d h
    cases d with
    | int v => exact I_alike_int n v
    | none => exact I_alike_none n
    | bool b => exact I_alike_bool n b
    | _ => simp [EV.okA] at h
  | succ k ih =>
    intro d h
    have seq : ∀ ds : List D, (d = .tuple ds ∨ d = .list ds) → ds.length ≤ 1000000 → ds.all (EV.okA k) = true → run (n + (k + 1) + 1) "_law_alike" none [d, d] = some (.dat (.bool true), none) := fun ds hd hl ha => alike_seq (n + k) hd hl fun j hj => ih _ (by
      have := List.all_eq_true.mp ha (ds[j]) (List.getElem_mem hj)
      simpa [List.getD, hj] using this)
    cases d with
    | int v => exact I_alike_int (n + (k + 1)) v
    | none => exact I_alike_none (n + (k + 1))
    | bool b => exact I_alike_bool (n + (k + 1)) b
    | tuple ds =>
      simp only [EV.okA, Bool.and_eq_true, decide_eq_true_eq] at h
      exact seq ds (.inl rfl) h.1 h.2
    | list ds =>
      simp only [EV.okA, Bool.and_eq_true, decide_eq_true_eq] at h
      exact seq ds (.inr rfl) h.1 h.2
    | _ => simp [EV.okA] at h
theorem I_alike_row (n : Nat) (xs : List Int) (hl : xs.length ≤ 1000000) : run (n + 2) "_law_alike" none [iT xs, iT xs] = some (.dat (.bool true), none) := I_alike n 1 _ (EV.okA_row hl)
theorem I_alike_rowL (n : Nat) (xs : List Int) (hl : xs.length ≤ 1000000) : run (n + 2) "_law_alike" none [iL xs, iL xs] = some (.dat (.bool true), none) := I_alike n 1 _ (EV.okA_rowL hl)
theorem I_alike_two (n : Nat) (xs ys : List Int) (hl : xs.length ≤ 1000000) (hl2 : ys.length ≤ 1000000) : run (n + 3) "_law_alike" none [.tuple [iT xs, iT ys], .tuple [iT xs, iT ys]] = some (.dat (.bool true), none) := I_alike n 2 _ (by
  have h1 := EV.okA_row (k := 0) hl
  have h2 := EV.okA_row (k := 0) hl2
  simp only [EV.okA, List.length_cons, List.length_nil, List.all_cons, List.all_nil] at h1 h2 ⊢
  simp only [h1, h2]
  simp)
theorem I_inverse (n : Nat) {p l : Int} {m : Nat} (hp : isPrime p) (h : IsInv p l m) : run (n + 1) "inverse" none [.int p, .int l] = some (.dat (.int (m : Int)), none) := by
  have pp := prime_pos hp
  obtain ⟨m1, m6, h1, h2⟩ := h
  have key : ∀ (k o fuel : Nat), o + k = m → 1 ≤ o → k < fuel → whileGo (tB (fBin bNe (oV (fBin bMod (oV (fBin bMul (oVar 1) (oVar 2))) (oVar 0))) (oV (vC (.int 1))))) (W_inverse_1 (run n)) fuel [.dat (.int p), .dat (.int l), .dat (.int (o : Int))] = some (.nx, [.dat (.int p), .dat (.int l), .dat (.int (m : Int))]) := by
    intro k
    induction k with
    | zero =>
      intro o fuel e ho hf
      obtain rfl : o = m := by omega
      obtain ⟨f, rfl⟩ : ∃ f, fuel = f + 1 := ⟨fuel - 1, by omega⟩
      have t : tB (fBin bNe (oV (fBin bMod (oV (fBin bMul (oVar 1) (oVar 2))) (oVar 0))) (oV (vC (.int 1)))) [.dat (.int p), .dat (.int l), .dat (.int (o : Int))] = some (!decide (l * (o : Int) % p = 1), [.dat (.int p), .dat (.int l), .dat (.int (o : Int))]) := by and_intros
      rw [whileGo, t, decide_eq_true h1]
      rfl
    | succ k ih =>
      intro o fuel e ho hf
      obtain ⟨f, rfl⟩ : ∃ f, fuel = f + 1 := ⟨fuel - 1, by omega⟩
      have t : tB (fBin bNe (oV (fBin bMod (oV (fBin bMul (oVar 1) (oVar 2))) (oVar 0))) (oV (vC (.int 1)))) [.dat (.int p), .dat (.int l), .dat (.int (o : Int))] = some (!decide (l * (o : Int) % p = 1), [.dat (.int p), .dat (.int l), .dat (.int (o : Int))]) := by and_intros
      have b : W_inverse_1 (run n) [.dat (.int p), .dat (.int l), .dat (.int (o : Int))] = some (.nx, [.dat (.int p), .dat (.int l), .dat (.int ((o : Int) + 1))]) := by and_intros
      have ne := h2 o ho (by omega)
      rw [whileGo, t, decide_eq_false ne]
      simp only [Option.bind_some, Bool.not_false, if_true, b]
      exact ih (o + 1) f (by omega) (by omega) (by omega)
  have key := key (m - 1) 1 turns (by omega) (by omega) (by unfold turns; omega)
  rw [show ((1 : Nat) : Int) = 1 from rfl] at key
  apply go_inverse
  and_intros
theorem I_first_figure (n : Nat) {p l a : Int} {m : Nat} (hp : isPrime p) (h : IsInv p l m) : run (n + 2) "_first_figure" none [.int p, .int a, .int l] = some (.dat (.int (ff p a m)), none) := by
  have pp := prime_pos hp
  have e := I_inverse n hp h
  have h6 : (m : Int) ≤ 6 := by have := h.2.1; omega
  apply go__first_figure
  and_intros
theorem I_rest_above (n : Nat) {p l a : Int} {m : Nat} (hp : isPrime p) (h : IsInv p l m) : run (n + 3) "rest_above" none [.int p, .int a, .int l] = some (.dat (.int ((a - ff p a m * l) / p)), none) := by
  have pp := prime_pos hp
  have e := I_first_figure n (a := a) hp h
  have hb := ff_bd hp a m
  apply go_rest_above
  and_intros
theorem figs_step (n : Nat) {p l : Int} {m : Nat} (hp : isPrime p) (h : IsInv p l m) (c : D) : ∀ (L : List Nat) (row : List Int) (a : Int) (t : Slot), EV.Free t → row.length + L.length ≤ 1000 → ∃ t' a', forGo (.nm 5) (W_figures_of_1 (run (n + 3))) (L.map EV.encN) [.dat (.int p), .dat (.int a), .dat (.int l), .dat c, .own (row.map .int), t] = some (.nx, [.dat (.int p), .dat (.int a'), .dat (.int l), .dat c, .own ((row ++ figs p l m L.length a).map .int), t'])
  | [], row, a, t, _, _ => ⟨t, a, by simp [forGo, figs]⟩
  | u :: L, row, a, t, ht, hl => by
    have e1 := I_first_figure (n + 1) (a := a) hp h
    have e2 := I_rest_above n (a := a) hp h
    have hl' : row.length < 16000000 := by simp at hl; omega
    obtain ⟨t', a', ih⟩ := figs_step n hp h c L (row ++ [ff p a m]) ((a - ff p a m * l) / p) (.dat (EV.encN u)) EV.fr_d (by simp at hl ⊢; omega)
    refine ⟨t', a', ?_⟩
    have b : W_figures_of_1 (run (n + 3)) [.dat (.int p), .dat (.int a), .dat (.int l), .dat c, .own (row.map .int), .dat (EV.encN u)] = some (.nx, [.dat (.int p), .dat (.int ((a - ff p a m * l) / p)), .dat (.int l), .dat c, .own ((row ++ [ff p a m]).map .int), .dat (EV.encN u)]) := by and_intros
    have g : (Tg.nm 5).put (EV.encN u) [.dat (.int p), .dat (.int a), .dat (.int l), .dat c, .own (row.map .int), t] = some [.dat (.int p), .dat (.int a), .dat (.int l), .dat c, .own (row.map .int), .dat (EV.encN u)] := by and_intros
    rw [List.map_cons, forGo, g]
    simp only [Option.bind_some, b, ih]
    rw [List.length_cons, figs, List.append_assoc]
    rfl
theorem I_figures (n : Nat) {p l : Int} {m : Nat} (hp : isPrime p) (h : IsInv p l m) (a : Int) (k : Nat) (hk : k ≤ 1000) : run (n + 4) "figures_of" none [.int p, .int a, .int l, .int (k : Int)] = some (.dat (iT (figs p l m k a)), none) := by
  obtain ⟨t', a', e⟩ := figs_step n hp h (.int (k : Int)) (List.range k) [] a .un EV.fr_u (by simp; omega)
  rw [List.length_range, List.nil_append] at e
  simp only [List.map_nil] at e
  apply go_figures_of
  and_intros
theorem value_loop (n : Nat) {p : Int} (hp : isPrime p) (d : D) (L : List Int) : ∃ t', forGo (.nm 3) (W_value_of_1 (run n)) (L.map .int) [.dat (.int p), .dat d, .dat (.int 0), .un] = some (.nx, [.dat (.int p), .dat d, .dat (.int (L.foldl (fun v x => v * p + x) 0)), t']) := by
  have pp := prime_pos hp
  obtain ⟨t', _, _, e⟩ := EV.f_loop (g := .nm 3) (bb := W_value_of_1 (run n)) (enc := PyData.int) (fun (v : Int) t => [.dat (.int p), .dat d, .dat (.int v), t]) (fun v x => v * p + x) (fun _ => True) L 0 .un EV.fr_u trivial (by
    intro s u t hu ht _
    refine ⟨trivial, ?_⟩
    apply EV.st_nx (δ1 := [.dat (.int p), .dat d, .dat (.int s), .dat (.int u)]) (δ2 := [.dat (.int p), .dat d, .dat (.int (s * p + u)), .dat (.int u)])
    · and_intros
    · and_intros
    · exact ⟨_, EV.fr_d, rfl⟩)
  exact ⟨t', e⟩
theorem I_value_of (n : Nat) {p : Int} (hp : isPrime p) (row : List Int) : run (n + 1) "value_of" none [.int p, iT row] = some (.dat (.int (val p row)), none) := by
  obtain ⟨t', e⟩ := value_loop n hp (iT row) row.reverse
  rw [val_rev] at e
  apply go_value_of
  and_intros
theorem half_bit (e k : Nat) : e / 2 ^ k = 2 * (e / 2 ^ (k + 1)) + e / 2 ^ k % 2 := by
  rw [Nat.pow_succ, ← Nat.div_div_eq_div_mul]
  omega
theorem power_of_loop (n : Nat) {p : Int} (hp : isPrime p) (e : Nat) (he : e ≤ 10000) : ∀ (k : Nat) (t3 : Slot), EV.Free t3 →
    ∃ t3' : Slot, forGo (.nm 3) (W_power_of_1 (run n)) ((List.range k).reverse.map EV.encN) [.dat (.int p), .dat (.int (e : Int)), .dat (.int (p ^ (e / 2 ^ k))), t3] = some (.nx, [.dat (.int p), .dat (.int (e : Int)), .dat (.int (p ^ e)), t3'])
  | 0, t3, _ => ⟨t3, by simp [forGo]⟩
  | k + 1, t3, f3 => by
    have pp := prime_pos hp
    have hle : e / 2 ^ (k + 1) ≤ e := Nat.div_le_self _ _
    have hb1 := (ub_pow hp (e / 2 ^ (k + 1))).log (by omega)
    have hg : (Tg.nm 3).put (EV.encN k) [.dat (.int p), .dat (.int (e : Int)), .dat (.int (p ^ (e / 2 ^ (k + 1)))), t3] = some [.dat (.int p), .dat (.int (e : Int)), .dat (.int (p ^ (e / 2 ^ (k + 1)))), .dat (.int (k : Int))] := by and_intros
    rw [List.range_succ, List.reverse_append, List.reverse_cons, List.reverse_nil, List.nil_append, List.singleton_append, List.map_cons, forGo, hg]
    simp only [Option.bind_some]
    obtain ⟨t3', ih⟩ := power_of_loop n hp e he k (.dat (.int (k : Int))) EV.fr_d
    have hh := half_bit e k
    have m1 : bMul (.int (p ^ (e / 2 ^ (k + 1)))) (.int (p ^ (e / 2 ^ (k + 1)))) = some (.dat (.int (p ^ (e / 2 ^ (k + 1)) * p ^ (e / 2 ^ (k + 1))))) := EV.p_mulB (by omega)
    have bb : W_power_of_1 (run n) [.dat (.int p), .dat (.int (e : Int)), .dat (.int (p ^ (e / 2 ^ (k + 1)))), .dat (.int (k : Int))] = some (.nx, [.dat (.int p), .dat (.int (e : Int)), .dat (.int (p ^ (e / 2 ^ k))), .dat (.int (k : Int))]) := by
      rcases Nat.mod_two_eq_zero_or_one (e / 2 ^ k) with hb0 | hb1
      · have hz : ((e / 2 ^ k % 2 : Nat) : Int) = 0 := by omega
        have ex : p ^ (e / 2 ^ (k + 1)) * p ^ (e / 2 ^ (k + 1)) = p ^ (e / 2 ^ k) := by rw [← Int.pow_add]; congr 1; omega
        rw [ex] at m1
        and_intros
      · have hz : ((e / 2 ^ k % 2 : Nat) : Int) ≠ 0 := by omega
        have ex : p ^ (e / 2 ^ (k + 1)) * p ^ (e / 2 ^ (k + 1)) * p = p ^ (e / 2 ^ k) := by rw [← Int.pow_add, ← Int.pow_succ]; congr 1; omega
        rw [← ex]
        and_intros
    rw [bb]
    exact ⟨t3', ih⟩
theorem I_power_of (n : Nat) {p : Int} (hp : isPrime p) {e : Nat} (he : e ≤ 10000) : run (n + 1) "power_of" none [.int p, .int (e : Int)] = some (.dat (.int (p ^ e)), none) := by
  have hb : e < 2 ^ 62 := Nat.lt_of_le_of_lt he (by decide)
  have hbn := EV.bl_le hb
  obtain ⟨t3', e3⟩ := power_of_loop n hp e he (EV.bl e) .un EV.fr_u
  rw [Nat.div_eq_of_lt (EV.bl_lt e), Int.pow_zero] at e3
  apply go_power_of
  and_intros
abbrev M60 : Int := 1000000000000000000000000000000000000000000000000000000000000
theorem I_check_fraction (n : Nat) {p a l : Int} (hp : isPrime p) (h1 : -M60 ≤ a) (h2 : a ≤ M60) (h3 : 1 ≤ l) (h4 : l ≤ M60) (h5 : l % p ≠ 0) : run (n + 3) "check_fraction" none [.int p, .tuple [.int a, .int l]] = some (.dat .none, none) := by
  have pp := prime_pos hp
  have e1 := I_check_prime n hp
  have e2 := I_is_between (n + 1) a (-1000000000000000000000000000000000000000000000000000000000000) 1000000000000000000000000000000000000000000000000000000000000
  have e3 := I_is_between (n + 1) l 1 1000000000000000000000000000000000000000000000000000000000000
  rw [decide_eq_true ⟨h1, h2⟩] at e2
  rw [decide_eq_true ⟨h3, h4⟩] at e3
  apply go_check_fraction
  and_intros
theorem I_fraction_row (n : Nat) {p a l : Int} (hp : isPrime p) (h1 : -M60 ≤ a) (h2 : a ≤ M60) (h3 : 1 ≤ l) (h4 : l ≤ M60) (h5 : l % p ≠ 0) {m : Nat} (hm : IsInv p l m) {k : Nat} (hk : k ≤ 400) :
    run (n + 5) "fraction_row" none [.int p, .tuple [.int a, .int l], .int (k : Int)] = some (.dat (iT (figs p l m k a)), none) := by
  have e0 := I_check_prime (n + 2) hp
  have e1 := I_check_fraction (n + 1) hp h1 h2 h3 h4 h5
  have e2 := I_check_number (n + 2) (v := k) (a := 0) (b := 400) (by omega) (by omega)
  have e3 := I_figures n hp hm a k (by omega)
  apply go_fraction_row
  and_intros
theorem shared_loop (n : Nat) : ∀ (L : List Nat) (a b : Nat) (g : Nat) (t : Slot), EV.Free t → eucl L.length a b = some g → ∃ δ', forGo (.nm 2) (W__law_shared_1 (run n)) (L.map EV.encN) [.dat (.int (a : Int)), .dat (.int (b : Int)), t] = some (.rt (.dat (.int (g : Int))), δ')
  | [], a, b, g, t, _, h => by simp [eucl] at h
  | u :: L, a, b, g, t, ht, h => by
    have gp : (Tg.nm 2).put (EV.encN u) [.dat (.int (a : Int)), .dat (.int (b : Int)), t] = some [.dat (.int (a : Int)), .dat (.int (b : Int)), .dat (EV.encN u)] := by and_intros
    rw [List.length_cons, eucl] at h
    by_cases hb : b = 0
    · rw [if_pos hb] at h
      cases h
      subst hb
      have b : W__law_shared_1 (run n) [.dat (.int (a : Int)), .dat (.int ((0 : Nat) : Int)), .dat (EV.encN u)] = some (.rt (.dat (.int (a : Int))), [.dat (.int (a : Int)), .dat (.int ((0 : Nat) : Int)), .dat (EV.encN u)]) := by and_intros
      refine ⟨[.dat (.int (a : Int)), .dat (.int ((0 : Nat) : Int)), .dat (EV.encN u)], ?_⟩
      rw [List.map_cons, forGo, gp]
      simp only [Option.bind_some, b]
    · rw [if_neg hb] at h
      have hb' : (0 : Int) < (b : Int) := by omega
      obtain ⟨δ', ih⟩ := shared_loop n L b (a % b) g (.dat (EV.encN u)) EV.fr_d h
      refine ⟨δ', ?_⟩
      have b : W__law_shared_1 (run n) [.dat (.int (a : Int)), .dat (.int (b : Int)), .dat (EV.encN u)] = some (.nx, [.dat (.int (b : Int)), .dat (.int ((a % b : Nat) : Int)), .dat (EV.encN u)]) := by
        rw [Int.natCast_emod]
        and_intros
      rw [List.map_cons, forGo, gp]
      simp only [Option.bind_some, b, ih]
theorem abs_nat (a : Int) : (if a < 0 then -a else a) = (a.natAbs : Int) := by split <;> omega
theorem I_law_shared (n : Nat) (a : Int) {b : Int} (hb : ub 749 b) : run (n + 1) "_law_shared" none [.int a, .int b] = some (.dat (.int ((Nat.gcd a.natAbs b.natAbs : Nat) : Int)), none) := by
  obtain ⟨δ', e⟩ := shared_loop n (List.range 1500) a.natAbs b.natAbs (Nat.gcd a.natAbs b.natAbs) .un EV.fr_u (by rw [List.length_range]; exact eucl_ok 749 1500 _ _ hb (by omega))
  rw [show (1500 : Nat) = Int.toNat 1500 from rfl, ← abs_nat a, ← abs_nat b] at e
  apply go__law_shared
  and_intros
theorem I_law_lowest_of (n : Nat) (a : Int) {l : Int} (hl : 0 < l) (hb : ub 749 l) : run (n + 2) "_law_lowest_of" none [.int a, .int l] = some (.dat (iT [a / (Nat.gcd a.natAbs l.natAbs : Nat), l / (Nat.gcd a.natAbs l.natAbs : Nat)]), none) := by
  have h0 : 0 < Nat.gcd a.natAbs l.natAbs := Nat.gcd_pos_of_pos_right _ (by omega)
  have h1 : Nat.gcd a.natAbs l.natAbs ≤ l.natAbs := Nat.gcd_le_right _ (by omega)
  have hlog : ((Nat.gcd a.natAbs l.natAbs : Nat) : Int).natAbs.log2 < 9000 := by
    have : ub 749 ((Nat.gcd a.natAbs l.natAbs : Nat) : Int) := by
      unfold ub at *
      rw [Int.natAbs_natCast]
      omega
    have := this.log (by omega)
    omega
  have e1 := I_law_shared n a hb
  have hp0 : (0 : Int) < ((Nat.gcd a.natAbs l.natAbs : Nat) : Int) := Int.natCast_pos.mpr h0
  have q1 : bFdiv (.int a) (.int ((Nat.gcd a.natAbs l.natAbs : Nat) : Int)) = some (.dat (.int (a / ((Nat.gcd a.natAbs l.natAbs : Nat) : Int)))) := EV.p_fdivB hp0 hlog
  have q2 : bFdiv (.int l) (.int ((Nat.gcd a.natAbs l.natAbs : Nat) : Int)) = some (.dat (.int (l / ((Nat.gcd a.natAbs l.natAbs : Nat) : Int)))) := EV.p_fdivB hp0 hlog
  have h2 : 2 ≤ 16000000 := by omega
  clear hlog h1
  apply go__law_lowest_of
  and_intros
/-- a drawn lower part -/
theorem I_law_low (n : Nat) {ns : List Int} {xs : List D} (hx : RowOk ns xs) {p m : Int} (hp : isPrime p) (hm : okM m) : ∃ l xs', run (n + 2) "_law_low" (some xs) [.int p, .int m] = some (.dat (.int l), some xs') ∧ (1 ≤ l ∧ l ≤ m + 1) ∧ l % p ≠ 0 ∧ RowOk ns xs' := by
  have pp := prime_pos hp
  obtain ⟨k, x1, d1, hk, hx1⟩ := I_taken n hx hm
  by_cases h : (1 + k) % p = 0
  · refine ⟨1 + k + 1, x1, ?_, by omega, ?_, hx1⟩
    · have hb : (if decide ((1 + k) % p = 0) = true then (1 : Int) else 0) = 1 := by rw [decide_eq_true h]; rfl
      have e : run (n + 2) "_law_low" (some xs) [.int p, .int m] = some (.dat (.int (1 + k + (if decide ((1 + k) % p = 0) = true then (1 : Int) else 0))), some x1) := by
        apply go__law_low
        and_intros
      rw [hb] at e
      exact e
    · rcases hp with rfl | rfl | rfl | rfl <;> omega
  · refine ⟨1 + k, x1, ?_, by omega, h, hx1⟩
    have hb : (if decide ((1 + k) % p = 0) = true then (1 : Int) else 0) = 0 := by rw [decide_eq_false h]; rfl
    have e : run (n + 2) "_law_low" (some xs) [.int p, .int m] = some (.dat (.int (1 + k + (if decide ((1 + k) % p = 0) = true then (1 : Int) else 0))), some x1) := by
      apply go__law_low
      and_intros
    rw [hb, Int.add_zero] at e
    exact e
end IPL
end
section
set_option linter.all false
set_option maxRecDepth 100000
set_option maxHeartbeats 1000000
namespace IPL
open IP
open PySem (PyData)
local macro_rules | `(tactic| infer_instance) => `(tactic| ((repeat' (first | with_reducible exact rfl | with_reducible assumption | with_reducible apply EV.bo_nt | with_reducible apply EV.bo_nf | with_reducible refine decide_eq_true ?_ | with_reducible refine decide_eq_false ?_ | with_reducible apply EV.bne_t | with_reducible apply EV.bne_f | omega)); done))
local macro_rules | `(tactic| and_intros) => `(tactic| repeat' (first
  | with_reducible assumption
  | ((with_reducible apply EV.gdO); first
      | with_reducible apply EV.o_V
      | ((with_reducible apply EV.o_var); (with_reducible apply EV.get_of); exact rfl)
      | ((with_reducible apply EV.o_own); (with_reducible apply EV.get_of); exact rfl)
      | ((with_reducible apply EV.o_prm); (with_reducible apply EV.get_of); exact rfl))
  | ((with_reducible apply EV.gdV); first
      | with_reducible exact EV.e_C
      | ((with_reducible apply EV.e_var); (with_reducible apply EV.get_of); exact rfl)
      | ((with_reducible apply EV.e_varO); ((with_reducible apply EV.get_of); exact rfl))
      | with_reducible apply EV.e_bin
      | ((with_reducible apply EV.e_call); (focus (and_intros; done)); (focus (and_intros; done)); ((with_reducible apply EV.any_of); exact rfl))
      | ((with_reducible apply EV.e_callD); (focus (and_intros; done)); (focus (and_intros; done)); (focus (and_intros; done)); first | with_reducible exact EV.noT | with_reducible exact EV.noI | with_reducible exact EV.noB | with_reducible exact EV.noN | with_reducible assumption | exact EV.noT)
      | with_reducible apply EV.e_bi
      | (with_reducible apply EV.e_sl)
      | with_reducible apply EV.e_tup
      | with_reducible apply EV.e_un
      | ((with_reducible apply EV.e_callRo); ((with_reducible apply EV.ow_o); (with_reducible apply EV.get_of); exact rfl))
      | ((with_reducible apply EV.e_callRp); ((with_reducible apply EV.ow_p); (with_reducible apply EV.get_of); exact rfl))
      | with_reducible apply EV.e_lc
      | ((with_reducible apply EV.andV_t); (focus infer_instance))
      | ((with_reducible apply EV.andV_f); (focus infer_instance))
      | ((with_reducible apply EV.orV_f); (focus infer_instance))
      | ((with_reducible apply EV.orV_t); (focus infer_instance))
      | ((with_reducible apply EV.iteV_t); (focus infer_instance))
      | ((with_reducible apply EV.iteV_f); (focus infer_instance))
      | ((with_reducible apply EV.chK_t); (focus infer_instance))
      | ((with_reducible apply EV.chK_f); (focus infer_instance))
      | ((with_reducible apply EV.e_fld); (focus (and_intros; done)); (focus exact rfl); (focus exact rfl))
      | ((with_reducible apply EV.e_flen); (focus (and_intros; done)))
      | ((with_reducible apply EV.e_ftup); (focus (and_intros; done)))
      | ((with_reducible apply EV.e_fix); (focus (and_intros; done)); (focus ((with_reducible apply EV.get_of); exact rfl)))
      | ((with_reducible apply EV.e_meth); (focus (and_intros; done)); (focus (and_intros; done)); (focus (and_intros; done)); (focus (and_intros; done)))
      | ((with_reducible apply EV.e_callNF); (focus (and_intros; done)); (focus (and_intros; done)); (focus ((with_reducible apply EV.prop_of); with_reducible assumption)); (focus exact rfl); (focus exact rfl))
      | ((with_reducible apply EV.e_callNM); (focus (and_intros; done)); (focus (and_intros; done)))
      | with_reducible apply EV.e_lc2
      | with_reducible apply EV.e_lst
      | with_reducible apply EV.e_not
      | with_reducible apply EV.e_and
      | with_reducible apply EV.e_or
      | with_reducible apply EV.e_ite
      | (with_reducible apply EV.e_chain)
      | with_reducible exact EV.e_dnew
      | with_reducible exact EV.e_disp
      | ((with_reducible apply EV.e_dixV); (focus (and_intros; done)); (focus (and_intros; done)); (focus (and_intros; done)); (focus (first | with_reducible assumption | exact rfl)))
      | ((with_reducible apply EV.e_din); (focus (and_intros; done)); (focus (and_intros; done)); (focus (first | with_reducible assumption | exact rfl)))
      | ((with_reducible apply EV.e_dnin); (focus (and_intros; done)); (focus (and_intros; done)); (focus (first | with_reducible assumption | exact rfl)))
      | ((with_reducible apply EV.e_dget); (focus (and_intros; done)); (focus (and_intros; done)); (focus (and_intros; done)); (focus (and_intros; done)); (focus (first | with_reducible assumption | exact rfl))))
  | ((with_reducible apply EV.gdG); first
      | ((with_reducible apply EV.get_of); exact rfl))
  | ((with_reducible apply EV.gdD); first
      | with_reducible exact EV.rd_v
      | with_reducible apply EV.rd_o
      | with_reducible apply EV.rd_p)
  | ((with_reducible apply EV.gdA); first
      | with_reducible exact EV.a_n
      | ((with_reducible apply EV.a_app); (focus (and_intros; done)))
      | with_reducible apply EV.a_c)
  | ((with_reducible apply EV.gdR); first
      | ((with_reducible apply EV.gdRb); first
      | ((with_reducible apply EV.gh_bIx); first | ((with_reducible apply EV.p_ixNegM) <;> first | assumption | omega) | ((with_reducible apply EV.p_ix0); first | assumption | omega) | with_reducible exact EV.p_ix20 | with_reducible exact EV.p_ix21 | with_reducible exact EV.p_ix30 | with_reducible exact EV.p_ix31 | with_reducible exact EV.p_ix32 | ((with_reducible apply EV.p_ixLastT); assumption) | ((with_reducible apply EV.p_ixNegT); first | assumption | omega) | ((with_reducible apply EV.p_ixNegL); first | assumption | omega) | ((with_reducible apply EV.p_ixT); first | assumption | omega) | ((with_reducible apply EV.p_ixL); first | assumption | omega) | ((with_reducible apply EV.p_ixT') <;> first | assumption | omega) | ((with_reducible apply EV.p_ixL') <;> first | assumption | omega) | ((with_reducible apply IPL.p_ixTT); first | assumption | omega) | ((with_reducible apply IPL.p_ixLT); first | assumption | omega) | ((with_reducible apply EV.p_ixDT); first | assumption | omega) | ((with_reducible apply EV.p_ixDL); first | assumption | omega))
      | ((with_reducible apply EV.gh_bAdd); first | with_reducible exact EV.p_add | ((with_reducible apply EV.p_addT); (with_reducible apply EV.line_of); first | assumption | omega) | ((with_reducible apply EV.p_addL); (with_reducible apply EV.line_of); first | assumption | omega) | ((with_reducible apply EV.p_addsL); first | assumption | omega) | ((with_reducible apply EV.p_addTs); (with_reducible apply EV.line_of); first | assumption | omega) | ((with_reducible apply EV.p_addsT); (with_reducible apply EV.line_of); first | assumption | omega))
      | with_reducible exact EV.p_sub
      | ((with_reducible apply EV.p_mod); first | assumption | omega)
      | ((with_reducible apply EV.gh_bMul); first | ((with_reducible apply EV.p_repL) <;> omega) | ((with_reducible apply EV.p_repT) <;> omega) | ((with_reducible apply EV.p_mulL); first | assumption | omega) | ((with_reducible apply EV.p_mulR); first | assumption | omega) | ((with_reducible apply EV.p_mulB); first | assumption | omega))
      | ((with_reducible apply EV.p_fdiv) <;> first | assumption | omega)
      | ((with_reducible apply EV.p_fdivB) <;> first | assumption | omega)
      | ((with_reducible apply EV.gh_bPow); first | with_reducible exact EV.p_pow12 | with_reducible exact EV.p_pow17 | with_reducible exact EV.p_pow60 | with_reducible exact EV.p_pow15 | with_reducible exact EV.p_pow18)
      | with_reducible exact EV.p_lt
      | with_reducible exact EV.p_le
      | with_reducible exact EV.p_gt
      | with_reducible exact EV.p_ge
      | ((with_reducible apply EV.gh_bEq); first | with_reducible exact EV.p_eq | with_reducible exact IPL.p_eqT | with_reducible exact IPL.p_eqT1 | with_reducible exact IPL.p_eqL | with_reducible exact IPL.p_eqL0 | with_reducible exact IPL.p_eqT0 | with_reducible exact IPL.p_eqL1 | with_reducible exact IPL.p_eqTT | with_reducible exact IPL.p_eqLT | with_reducible exact EV.p_eqB)
      | ((with_reducible apply EV.gh_bNe); first | with_reducible exact EV.p_ne | with_reducible exact IPL.p_neT | with_reducible exact IPL.p_neT1 | with_reducible exact IPL.p_neL | with_reducible exact IPL.p_neT0 | with_reducible exact IPL.p_neL1 | with_reducible exact IPL.p_neTT | with_reducible exact IPL.p_neLT | with_reducible exact IPL.p_neL0 | with_reducible exact EV.p_neB)
      | ((with_reducible apply EV.p_xor) <;> first | assumption | omega)
      | with_reducible exact EV.p_shrN
      | with_reducible exact EV.p_and1
      | ((with_reducible apply EV.p_and) <;> first | assumption | omega))
      | ((with_reducible apply EV.gdRi); first
      | ((with_reducible apply EV.gh_biLen); first | with_reducible exact EV.b_len2 | with_reducible exact EV.b_len3 | with_reducible exact EV.b_lenT | with_reducible exact EV.b_lenL | with_reducible exact EV.b_lenT' | with_reducible exact EV.b_lenL')
      | with_reducible exact EV.b_int
      | with_reducible exact EV.b_intB
      | with_reducible exact EV.b_tupL
      | with_reducible exact EV.b_tupT
      | with_reducible exact EV.b_lstL
      | with_reducible exact EV.b_lstT
      | with_reducible exact EV.b_sum
      | with_reducible exact EV.b_sum2L
      | with_reducible exact EV.b_sum2T
      | with_reducible exact EV.b_any2L
      | with_reducible exact EV.b_abs
      | with_reducible exact EV.b_max
      | with_reducible exact EV.b_min
      | with_reducible exact EV.b_gcd)
      | ((with_reducible apply EV.gdRu); first
      | ((with_reducible apply EV.gh_uIs); first | with_reducible exact EV.is_ii | with_reducible exact EV.is_bi | with_reducible exact EV.is_tt | with_reducible exact EV.is_tl | with_reducible exact EV.is_lt | with_reducible exact EV.is_ll)
      | ((with_reducible apply EV.gh_uIsN); first | with_reducible exact EV.uisn | with_reducible exact EV.uisn_i | with_reducible exact EV.uisn_t)
      | ((with_reducible apply EV.gh_uNotN); first | with_reducible exact EV.unn | with_reducible exact EV.unn_i | with_reducible exact EV.unn_t)
      | with_reducible exact EV.p_bitsN
      | with_reducible exact EV.p_neg
      | with_reducible exact EV.p_revT
      | with_reducible exact EV.p_revL
      | with_reducible exact EV.p_tupRev)
      | ((with_reducible apply EV.gh_cutR); first | with_reducible exact EV.cut_to1 | with_reducible exact EV.cut_to1L | with_reducible exact EV.cut_fr1 | with_reducible exact EV.cut_fr1L | with_reducible exact EV.cut_toT | with_reducible exact EV.cut_toL | with_reducible exact EV.cut_frT | with_reducible exact EV.cut_frL | with_reducible exact EV.cut_lastT | with_reducible exact EV.cut_last1 | with_reducible exact EV.cut_last1L | ((with_reducible apply EV.cut_toI); first | assumption | omega) | ((with_reducible apply EV.cut_frI); first | assumption | omega) | with_reducible exact EV.cut_lastL)
      | ((with_reducible apply EV.gh_outR); first | with_reducible exact EV.or_n | with_reducible exact EV.or_r | ((with_reducible apply EV.or_of); exact rfl) | ((with_reducible apply EV.or_bt); focus infer_instance)))
  | ((with_reducible apply EV.gdS); first
      | with_reducible apply EV.s_seq
      | ((with_reducible apply EV.gh_seqK); first | with_reducible exact EV.q_rt | with_reducible apply EV.q_nx | with_reducible exact EV.q_bk | with_reducible exact EV.q_ct | with_reducible exact EV.q_ro)
      | with_reducible apply EV.s_set
      | with_reducible apply EV.s_if
      | ((with_reducible apply EV.if_t); (focus infer_instance))
      | ((with_reducible apply EV.if_f); (focus infer_instance))
      | with_reducible exact EV.s_pass
      | with_reducible apply EV.s_ret
      | with_reducible apply EV.s_ex
      | ((with_reducible apply EV.s_appI); ((with_reducible apply EV.ow_o); (with_reducible apply EV.get_of); exact rfl); (focus (and_intros; done)); ((with_reducible apply EV.get_of); exact rfl))
      | ((with_reducible apply EV.s_appO); ((with_reducible apply EV.ow_o); (with_reducible apply EV.get_of); exact rfl))
      | ((with_reducible apply EV.s_fld); (focus (and_intros; done)); (focus (and_intros; done)); (focus exact rfl); (focus (and_intros; done)); (focus exact rfl); (focus exact rfl))
      | ((with_reducible apply EV.s_faug); (focus (and_intros; done)); (focus exact rfl); (focus exact rfl); (focus (and_intros; done)); (focus (and_intros; done)); (focus exact rfl); (focus exact rfl))
      | ((with_reducible apply EV.s_fapp); (focus (and_intros; done)); (focus ((with_reducible apply EV.get_of); exact rfl)); (focus (first | assumption | omega)))
      | ((with_reducible apply EV.s_callN); (focus (and_intros; done)); (focus (and_intros; done)))
      | ((with_reducible apply EV.s_retG); ((with_reducible apply EV.get_of); exact rfl))
      | with_reducible exact EV.s_brk
      | with_reducible exact EV.s_cnt
      | with_reducible exact EV.s_retN
      | with_reducible apply EV.s_unp
      | with_reducible apply EV.s_par
      | ((with_reducible apply EV.s_augI); ((with_reducible apply EV.get_of); exact rfl))
      | ((with_reducible apply EV.s_setIxN); (focus (and_intros; done)); (focus ((with_reducible apply EV.ow_o); (with_reducible apply EV.get_of); exact rfl)); (focus (and_intros; done)); (focus ((with_reducible apply EV.get_of); exact rfl)); (focus (first | assumption | omega)))
      | ((with_reducible apply EV.s_setIxI); (focus (and_intros; done)); (focus ((with_reducible apply EV.ow_o); (with_reducible apply EV.get_of); exact rfl)); (focus (and_intros; done)); (focus ((with_reducible apply EV.get_of); exact rfl)); (focus (first | assumption | omega)))
      | ((with_reducible apply EV.s_augIxN); (focus ((with_reducible apply EV.ow_o); (with_reducible apply EV.get_of); exact rfl)); (focus (and_intros; done)); (focus ((with_reducible apply EV.get_of); exact rfl)); (focus (and_intros; done)); (focus ((with_reducible apply EV.get_of); exact rfl)); (focus (first | assumption | omega)))
      | ((with_reducible apply EV.s_pop); (focus ((with_reducible apply EV.get_of); exact rfl)); (focus assumption))
      | ((with_reducible apply EV.s_setIx); (focus (and_intros; done)); ((with_reducible apply EV.ow_o); (with_reducible apply EV.get_of); exact rfl); (focus (and_intros; done)); ((with_reducible apply EV.get_of); exact rfl))
      | with_reducible apply EV.s_for
      | with_reducible apply EV.s_while
      | ((with_reducible apply EV.s_dset); (focus (and_intros; done)); (focus (and_intros; done)); (focus (and_intros; done)); (focus (and_intros; done)); (focus (and_intros; done)); (focus (first | with_reducible assumption | exact rfl))))
  | ((with_reducible apply EV.gdL); first
      | ((with_reducible apply EV.gP); ((with_reducible apply EV.get_of); exact rfl))
      | ((with_reducible apply EV.gO); ((with_reducible apply EV.get_of); exact rfl))
      | with_reducible exact EV.ra_n
      | with_reducible apply EV.ra_c
      | with_reducible exact EV.vs_n
      | with_reducible apply EV.vs_c)
  | ((with_reducible apply EV.gdE); first
      | ((with_reducible apply EV.gh_setSlot); first | with_reducible exact EV.st_0u | with_reducible exact EV.st_0d | with_reducible exact EV.st_0o | ((with_reducible apply EV.st_0f); first | assumption | exact EV.fr_d | exact EV.fr_u) | ((with_reducible apply EV.st_0g); assumption) | with_reducible apply EV.st_s | with_reducible exact EV.st_0k)
      | with_reducible exact EV.u_n
      | ((with_reducible apply EV.u_u); ((with_reducible apply EV.get_of); exact rfl))
      | ((with_reducible apply EV.u_d); ((with_reducible apply EV.get_of); exact rfl))
      | with_reducible apply EV.t_nm
      | with_reducible apply EV.t_tup
      | with_reducible exact EV.sd_n
      | with_reducible apply EV.sd_c
      | with_reducible exact EV.sr_n
      | with_reducible apply EV.sr_c)
  | ((with_reducible apply EV.gdT); first
      | with_reducible apply EV.t_B
      | with_reducible apply EV.t_V
      | with_reducible apply EV.t_not
      | with_reducible apply EV.t_and
      | with_reducible apply EV.t_or
      | ((with_reducible apply EV.orT_f); (focus infer_instance))
      | ((with_reducible apply EV.orT_t); (focus infer_instance))
      | ((with_reducible apply EV.andT_t); (focus infer_instance))
      | ((with_reducible apply EV.andT_f); (focus infer_instance)))
  | ((with_reducible apply EV.gdLs); first
      | with_reducible exact EV.ls_0
      | with_reducible apply EV.ls_s)
  | ((with_reducible apply EV.gdSl); first
      | with_reducible exact EV.so_d
      | with_reducible exact EV.so_n
      | with_reducible exact EV.so_nd)
  | ((with_reducible apply EV.gdBo); first
      | with_reducible exact EV.stl_n
      | ((with_reducible apply EV.stl_o); (with_reducible apply EV.get_of); exact rfl)
      | ((with_reducible apply EV.bo_nf); focus infer_instance)
      | ((with_reducible apply EV.bo_nt); focus infer_instance))
  | ((with_reducible apply EV.gdEn); first
      | ((with_reducible apply EV.pP); (focus ((with_reducible apply EV.get_of); exact rfl)))
      | ((with_reducible apply EV.pO); (focus ((with_reducible apply EV.get_of); exact rfl)))
      | with_reducible exact EV.ba_n
      | ((with_reducible apply EV.ba_c); ((with_reducible apply EV.get_of); exact rfl)))
  | ((with_reducible apply EV.gdDd); first
      | with_reducible exact EV.td_d
      | with_reducible exact EV.td_n
      | with_reducible exact EV.td_nd)
  | ((with_reducible apply EV.gdI); first
      | ((with_reducible apply EV.i_r1); (focus (and_intros; done)); omega)
      | ((with_reducible apply EV.i_r1'); (focus (and_intros; done)); omega; omega)
      | ((with_reducible apply EV.i_r2); (focus (and_intros; done)); (focus (and_intros; done)); omega; omega; omega; omega)
      | ((with_reducible apply EV.i_rT); (focus (and_intros; done)))
      | ((with_reducible apply EV.i_rL); (focus (and_intros; done)))
      | ((with_reducible apply EV.i_zT); (focus (and_intros; done)); (focus (and_intros; done)))
      | ((with_reducible apply EV.i_zL); (focus (and_intros; done)); (focus (and_intros; done)))
      | ((with_reducible apply EV.i_enT); (focus (and_intros; done)))
      | ((with_reducible apply EV.i_enL); (focus (and_intros; done)))
      | ((with_reducible apply EV.i_rr1); (focus (and_intros; done)); omega)
      | ((with_reducible apply EV.i_ET); (focus (and_intros; done)))
      | ((with_reducible apply EV.i_E); (focus (and_intros; done)))
      | ((with_reducible apply EV.i_EO); (focus (and_intros; done)); (focus (and_intros; done))))
  | ((with_reducible apply EV.gdTr); first
      | ((with_reducible apply EV.gh_truth); first | with_reducible exact EV.tr_b | with_reducible exact EV.tr_T | with_reducible exact EV.tr_L | with_reducible exact EV.tr_i | with_reducible exact EV.tr_n))
  | ((with_reducible apply EV.gdLc); first
      | ((with_reducible apply EV.l_intR); (intro _ _; with_reducible apply EV.lt_y))
      | ((with_reducible apply EV.l_int); (intro _ _; with_reducible apply EV.lt_y)))
  | ((with_reducible apply EV.gdP); first
      | with_reducible exact EV.pe_n
      | with_reducible apply EV.pe_c)
  | ((with_reducible apply EV.gdPo); first
      | with_reducible exact EV.pn
      | with_reducible apply EV.ps)
  | ((with_reducible apply EV.line_of); first | assumption | (simp only [List.length_map, List.length_range, List.length_append, List.length_cons, List.length_nil, List.length_reverse, List.length_zip, List.length_take, List.length_drop, List.length_dropLast]; omega))
  | ((with_reducible apply EV.line_lt); first | assumption | (simp only [List.length_map, List.length_range, List.length_append, List.length_cons, List.length_nil, List.length_reverse, List.length_zip, List.length_take, List.length_drop, List.length_dropLast]; omega))
  | ((with_reducible apply EV.dctI_of); ((with_reducible apply EV.get_of); exact rfl))))
abbrev pD (z : Int × Int) : D := .tuple [.int z.1, .int z.2]
def bz (N : Nat) (z : Int × Int) : Prop := ub N z.1 ∧ ub N z.2
theorem bz_of {N : Nat} {z : Int × Int} (h : sz z < 2 ^ N) : bz N z := by
  have e : ((2 ^ N : Nat) : Int) = 2 ^ N := Int.natCast_pow 2 N
  unfold sz at h
  constructor <;> (unfold ub; omega)
theorem bz_lt {N : Nat} {z : Int × Int} (h : bz N z) : sz z < 2 ^ N := by
  have e : ((2 ^ N : Nat) : Int) = 2 ^ N := Int.natCast_pow 2 N
  obtain ⟨h1, h2⟩ := h
  unfold ub at h1 h2
  unfold sz
  omega
theorem I__size (n : Nat) (z : Int × Int) : run (n + 1) "_size" none [pD z] = some (.dat (.int (sz z)), none) := by
  have i0 : bIx (pD z) (.int 0) = some (.dat (.int z.1)) := rfl
  have i1 : bIx (pD z) (.int 1) = some (.dat (.int z.2)) := rfl
  have a0 : biAbs [.int z.1] = some (.dat (.int (z.1.natAbs : Int))) := by rw [biAbs, abs_nat]
  have a1 : biAbs [.int z.2] = some (.dat (.int (z.2.natAbs : Int))) := by rw [biAbs, abs_nat]
  have m : biMax [.int (z.1.natAbs : Int), .int (z.2.natAbs : Int)] = some (.dat (.int (sz z))) := by
    rw [EV.b_max]
    have : (if (z.2.natAbs : Int) > (z.1.natAbs : Int) then (z.2.natAbs : Int) else (z.1.natAbs : Int)) = sz z := by
      unfold sz
      split <;> omega
    rw [this]
  generalize sz z = S at *
  obtain ⟨a, b⟩ := z
  dsimp only at *
  apply go__size
  and_intros
theorem I__less (n : Nat) {N : Nat} (hN : N ≤ 4000) {p s : Int × Int} (hp : bz N p) (hs : bz N s) {k : Int} (hk : ub (N + 3) k) : run (n + 1) "_less" none [pD p, pD s, .int k] = some (.dat (pD (sbm p s k)), none) := by
  have i0 : bIx (pD p) (.int 0) = some (.dat (.int p.1)) := rfl
  have i1 : bIx (pD p) (.int 1) = some (.dat (.int p.2)) := rfl
  have j0 : bIx (pD s) (.int 0) = some (.dat (.int s.1)) := rfl
  have j1 : bIx (pD s) (.int 1) = some (.dat (.int s.2)) := rfl
  have l0 := (hs.1.mono (show N ≤ N + 1 by omega)).log (by omega)
  have l1 := (hs.2.mono (show N ≤ N + 1 by omega)).log (by omega)
  have lk := hk.log (by omega)
  have m0 : bMul (.int k) (.int s.1) = some (.dat (.int (k * s.1))) := EV.p_mulB (by omega)
  have m1 : bMul (.int k) (.int s.2) = some (.dat (.int (k * s.2))) := EV.p_mulB (by omega)
  clear hp hs l0 l1
  obtain ⟨a, b⟩ := p
  obtain ⟨c, d⟩ := s
  unfold sbm
  dsimp only at *
  apply go__less
  and_intros
theorem keys_sz (n : Nat) : ∀ L : List (Int × Int), keysOf (run (n + 1) "_size") (L.map pD) = some (L.map sz)
  | [] => rfl
  | z :: L => by
    rw [List.map_cons, keysOf, I__size]
    simp only [keys_sz n L, Option.map_some, List.map_cons]
theorem leastAt_ok (ks : List Int) : ∀ j, leastAt ks j ≤ j ∧ ∀ i, i ≤ j → ks.getD (leastAt ks j) 0 ≤ ks.getD i 0
  | 0 => ⟨Nat.le_refl _, fun i hi => by
    rw [show i = 0 by omega]
    exact Int.le_refl _⟩
  | j + 1 => by
    obtain ⟨h1, h2⟩ := leastAt_ok ks j
    have e : leastAt ks (j + 1) = if ks.getD (j + 1) 0 < ks.getD (leastAt ks j) 0 then j + 1 else leastAt ks j := rfl
    rw [e]
    split
    · rename_i c
      refine ⟨Nat.le_refl _, fun i hi => ?_⟩
      by_cases z : i = j + 1
      · rw [z]
        exact Int.le_refl _
      · have := h2 i (by omega)
        omega
    · rename_i c
      refine ⟨by omega, fun i hi => ?_⟩
      by_cases z : i = j + 1
      · rw [z]
        omega
      · exact h2 i (by omega)
theorem e_minK {c : Fnc} {f : Eo} {δ δ1 : Env} {o : Opd} {ds : List D} {ks : List Int} {d : D} (h : f δ = some (o, δ1)) (h2 : rd δ1 o = some (.list ds)) (h3 : keysOf c ds = some ks) (h4 : ds[leastAt ks (ds.length - 1)]? = some d) : vMinK c f δ = some (.dat d, δ1) := by
  simp only [vMinK, h, h2, h3, h4, Option.bind_some, Option.map_some]
theorem same_pD : ∀ l : List (Int × Int), sameAll (l.map pD) (l.map pD) = true
  | [] => rfl
  | z :: l => by
    simp only [List.map_cons, sameAll, same, same_pD l, Bool.and_true]
    simp
theorem brs_bd {N : Nat} {p s : Int × Int} (hp : bz N p) : ∀ k ∈ brs p s, ub (N + 2) k := by
  intro k hk
  obtain ⟨z, hz, rfl⟩ := List.mem_map.mp hk
  have hz := (List.mem_filter.mp hz).1
  have u : ub (N + 1) z.1 := by
    simp only [List.mem_cons, List.not_mem_nil, or_false] at hz
    rcases hz with rfl | rfl
    · exact hp.1.sub hp.2
    · exact hp.1.add hp.2
  have h := Int.natAbs_fdiv_le_natAbs z.1 z.2
  have u2 := u.mono (show N + 1 ≤ N + 2 by omega)
  unfold ub at *
  omega
theorem I__nearest (n : Nat) {N : Nat} (hN : N ≤ 4000) {p s : Int × Int} (hp : bz N p) (hs : bz N s) (h0 : s ≠ (0, 0)) : ∃ k, run (n + 2) "_nearest" none [pD p, pD s] = some (.dat (pD (sbm p s k)), none) ∧ ∀ m, sz (sbm p s k) ≤ sz (sbm p s m) := by
  have i0 : bIx (pD p) (.int 0) = some (.dat (.int p.1)) := rfl
  have i1 : bIx (pD p) (.int 1) = some (.dat (.int p.2)) := rfl
  have j0 : bIx (pD s) (.int 0) = some (.dat (.int s.1)) := rfl
  have j1 : bIx (pD s) (.int 1) = some (.dat (.int s.2)) := rfl
  obtain ⟨Ps, hPs⟩ : ∃ Ps : List (Int × Int), Ps = [(p.1 - p.2, s.1 - s.2), (p.1 + p.2, s.1 + s.2)] := ⟨_, rfl⟩
  have ePs : Ps.map pD = [.tuple [.int (p.1 - p.2), .int (s.1 - s.2)], .tuple [.int (p.1 + p.2), .int (s.1 + s.2)]] := by
    rw [hPs]
    rfl
  have hsu : ∀ z ∈ Ps, ub (N + 1) z.2 := fun z hz => by
    rw [hPs] at hz
    simp only [List.mem_cons, List.not_mem_nil, or_false] at hz
    rcases hz with rfl | rfl
    · exact hs.1.sub hs.2
    · exact hs.1.add hs.2
  have l1 := EV.l_flt (vs := [5, 6]) (g := .tup [5, 6]) (t := W__nearest_2 (run (n + 1))) (e := W__nearest_1 (run (n + 1))) (src := Ps.map pD) (ow := some 2) (δ := [.dat (pD p), .dat (pD s), .own (Ps.map pD), .un, .un, .un, .un, .un]) (enc := pD) (l := Ps) (c := fun z => z.2 != 0) (f := fun z => PyData.int (z.1.fdiv z.2)) (fun z hz hc => by
    have hc : z.2 ≠ 0 := by simpa using hc
    have l := (hsu z hz).log (by omega)
    have f1 : bFdivN (.int z.1) (.int z.2) = some (.dat (.int (z.1.fdiv z.2))) := by rw [bFdivN, if_pos ⟨hc, by omega⟩]
    have q0 : (!decide (z.2 = 0)) = true := by simp [hc]
    clear hsu ePs hPs i0 i1 j0 j1
    obtain ⟨a, b⟩ := z
    dsimp only at *
    generalize Ps.map pD = Q at *
    apply EV.lt_t
    and_intros) (fun z hz hc => by
    have hc : z.2 = 0 := by simpa using hc
    have q0 : (!decide (z.2 = 0)) = false := by simp [hc]
    clear hsu ePs hPs i0 i1 j0 j1
    obtain ⟨a, b⟩ := z
    dsimp only at *
    generalize Ps.map pD = Q at *
    apply EV.lt_f
    and_intros) (by
    simp only [still, List.getElem?_cons_succ, List.getElem?_cons_zero, slotD]
    exact same_pD Ps)
  have eb : ((Ps.filter fun z => z.2 != 0).map fun z => PyData.int (z.1.fdiv z.2)) = (brs p s).map .int := by
    rw [hPs, brs, List.map_map]
    rfl
  rw [eb] at l1
  have bb := brs_bd (s := s) hp
  have l2 := EV.l_any (vs := [7]) (g := .nm 7) (e := W__nearest_3 (run (n + 1))) (src := (brs p s).map .int) (ow := some 3) (δ := [.dat (pD p), .dat (pD s), .own (Ps.map pD), .own ((brs p s).map .int), .un, .un, .un, .un]) (enc := .int) (l := brs p s) (f := fun k => pD (sbm p s k)) (fun k hk => by
    have e := I__less n hN hp hs ((bb k hk).mono (by omega))
    clear hsu ePs hPs i0 i1 j0 j1 bb
    generalize (brs p s).map PyData.int = Q2 at *
    generalize Ps.map pD = Q at *
    generalize sbm p s k = r at *
    apply EV.lt_y
    and_intros) (by
    simp only [still, List.getElem?_cons_succ, List.getElem?_cons_zero, slotD]
    exact same_ints _)
  have l3 := EV.l_any (vs := [7]) (g := .nm 7) (e := W__nearest_4 (run (n + 1))) (src := (brs p s).map .int) (ow := some 3) (δ := [.dat (pD p), .dat (pD s), .own (Ps.map pD), .own ((brs p s).map .int), .un, .un, .un, .un]) (enc := .int) (l := brs p s) (f := fun k => pD (sbm p s (k + 1))) (fun k hk => by
    have e := I__less n hN hp hs (k := k + 1) ((bb k hk).add (show ub (N + 2) 1 from Nat.one_lt_two_pow (by omega)))
    clear hsu ePs hPs i0 i1 j0 j1 bb
    generalize (brs p s).map PyData.int = Q2 at *
    generalize Ps.map pD = Q at *
    generalize sbm p s (k + 1) = r at *
    apply EV.lt_y
    and_intros) (by
    simp only [still, List.getElem?_cons_succ, List.getElem?_cons_zero, slotD]
    exact same_ints _)
  have et : ((brs p s).map fun k => pD (sbm p s k)) ++ ((brs p s).map fun k => pD (sbm p s (k + 1))) = ((tries p s).map (sbm p s)).map pD := by
    rw [tries, List.map_append, List.map_append, List.map_map, List.map_map, List.map_map]
    rfl
  have bl : (brs p s).length ≤ 2 := by
    rw [brs, List.length_map]
    exact List.length_filter_le ..
  have ba : bAdd (.list ((brs p s).map fun k => pD (sbm p s k))) (.list ((brs p s).map fun k => pD (sbm p s (k + 1)))) = some (.new (((tries p s).map (sbm p s)).map pD)) := by
    rw [← et]
    exact EV.p_addD (by rw [List.length_map, List.length_map]; show _ ≤ (16000000 : Nat); omega)
  have hk := keys_sz n ((tries p s).map (sbm p s))
  have tl : 0 < (tries p s).length := by
    obtain ⟨k, hk, _⟩ := near_ok p h0 0
    exact List.length_pos_of_mem hk
  obtain ⟨i, hi⟩ : ∃ i, i = leastAt (((tries p s).map (sbm p s)).map sz) ((((tries p s).map (sbm p s)).map pD).length - 1) := ⟨_, rfl⟩
  obtain ⟨b1, b2⟩ := leastAt_ok (((tries p s).map (sbm p s)).map sz) ((((tries p s).map (sbm p s)).map pD).length - 1)
  rw [← hi] at b1 b2
  have ln : (((tries p s).map (sbm p s)).map pD).length = (tries p s).length := by rw [List.length_map, List.length_map]
  rw [ln] at b1 b2
  have hil : i < (tries p s).length := by omega
  have gd : ∀ j, j < (tries p s).length → (((tries p s).map (sbm p s)).map sz).getD j 0 = sz (sbm p s ((tries p s).getD j 0)) := fun j hj => by
    simp only [List.getD, List.getElem?_map, List.getElem?_eq_getElem hj, Option.map_some, Option.getD_some]
  have hx : (((tries p s).map (sbm p s)).map pD)[i]? = some (pD (sbm p s ((tries p s).getD i 0))) := by
    simp only [List.getD, List.getElem?_map, List.getElem?_eq_getElem hil, Option.map_some, Option.getD_some]
  rw [hi] at hx
  refine ⟨(tries p s).getD i 0, ?_, fun m => ?_⟩
  · rw [hi]
    have mk : vMinK (run (n + 1) "_size") (oVar 4) [.dat (pD p), .dat (pD s), .own (Ps.map pD), .own ((brs p s).map .int), .own (((tries p s).map (sbm p s)).map pD), .un, .un, .un] = some (.dat (pD (sbm p s ((tries p s).getD (leastAt (((tries p s).map (sbm p s)).map sz) ((((tries p s).map (sbm p s)).map pD).length - 1)) 0))), [.dat (pD p), .dat (pD s), .own (Ps.map pD), .own ((brs p s).map .int), .own (((tries p s).map (sbm p s)).map pD), .un, .un, .un]) := e_minK rfl rfl hk hx
    generalize pD (sbm p s ((tries p s).getD (leastAt (((tries p s).map (sbm p s)).map sz) ((((tries p s).map (sbm p s)).map pD).length - 1)) 0)) = R at *
    have r1 : ((brs p s).map PyData.int).length ≤ 16000000 := by rw [List.length_map]; omega
    have r2 : ((brs p s).map fun k => pD (sbm p s k)).length ≤ 16000000 := by rw [List.length_map]; omega
    have r3 : ((brs p s).map fun k => pD (sbm p s (k + 1))).length ≤ 16000000 := by rw [List.length_map]; omega
    clear hi b1 b2 hil gd hx hk tl ln et eb bb hsu hPs
    generalize ((tries p s).map (sbm p s)).map pD = T4 at *
    generalize ((brs p s).map fun k => pD (sbm p s k)) = T2 at *
    generalize ((brs p s).map fun k => pD (sbm p s (k + 1))) = T3 at *
    generalize (brs p s).map PyData.int = T1 at *
    rw [ePs] at l1 l2 l3 mk
    clear ePs bl
    obtain ⟨a, b⟩ := p
    obtain ⟨c, d⟩ := s
    dsimp only at *
    apply go__nearest
    and_intros
  · obtain ⟨k, hk1, hk2⟩ := near_ok p h0 m
    obtain ⟨j, hj, ej⟩ := List.mem_iff_getElem.mp hk1
    have := b2 j (by omega)
    rw [gd i hil, gd j hj] at this
    have e : (tries p s).getD j 0 = k := by
      simp only [List.getD, List.getElem?_eq_getElem hj, Option.getD_some]
      exact ej
    rw [e] at this
    omega
end IPL
end
section
set_option linter.all false
set_option maxRecDepth 8000
/-! Lat4: the steps of the reduction halve the size, two by two. -/
namespace IPL
theorem sbm_sbm (p s : Int × Int) (k m : Int) : sbm (sbm p s k) s m = sbm p s (k + m) := by
  unfold sbm
  refine Prod.ext ?_ ?_ <;> dsimp only <;> rw [Int.add_mul] <;> omega
theorem sz_mul (m : Int) (x : Int × Int) : sz (m * x.1, m * x.2) = (m.natAbs : Int) * sz x := by
  unfold sz
  dsimp only
  rw [Int.natAbs_mul, Int.natAbs_mul, Int.natCast_mul, Int.natCast_mul]
  rcases Int.le_total (x.1.natAbs : Int) (x.2.natAbs : Int) with h | h
  · rw [Int.max_eq_right h, Int.max_eq_right (Int.mul_le_mul_of_nonneg_left h (by omega))]
  · rw [Int.max_eq_left h, Int.max_eq_left (Int.mul_le_mul_of_nonneg_left h (by omega))]
theorem sz_add (a b : Int × Int) : sz (a.1 + b.1, a.2 + b.2) ≤ sz a + sz b := by
  unfold sz
  dsimp only
  omega
/-- along a line the size goes on growing -/
theorem line_mono {A B : Int × Int} {i j : Int} (hi : 0 < i) (hij : i ≤ j) (h : sz A ≤ sz (A.1 + i * B.1, A.2 + i * B.2)) : sz (A.1 + i * B.1, A.2 + i * B.2) ≤ sz (A.1 + j * B.1, A.2 + j * B.2) := by
  obtain ⟨U, hU⟩ : ∃ U : Int × Int, U = (A.1 + i * B.1, A.2 + i * B.2) := ⟨_, rfl⟩
  obtain ⟨V, hV⟩ : ∃ V : Int × Int, V = (A.1 + j * B.1, A.2 + j * B.2) := ⟨_, rfl⟩
  rw [← hU] at h ⊢
  rw [← hV]
  have e1 := sz_mul j U
  have e2 := sz_mul i V
  have e3 := sz_mul (j - i) A
  have t := sz_add (i * V.1, i * V.2) ((j - i) * A.1, (j - i) * A.2)
  have eq : (i * V.1 + (j - i) * A.1, i * V.2 + (j - i) * A.2) = (j * U.1, j * U.2) := by
    rw [hU, hV]
    refine Prod.ext ?_ ?_
    · show i * (A.1 + j * B.1) + (j - i) * A.1 = j * (A.1 + i * B.1)
      rw [Int.mul_add, Int.mul_add, Int.sub_mul, Int.mul_left_comm j i]
      omega
    · show i * (A.2 + j * B.2) + (j - i) * A.2 = j * (A.2 + i * B.2)
      rw [Int.mul_add, Int.mul_add, Int.sub_mul, Int.mul_left_comm j i]
      omega
  dsimp only at t
  rw [eq, e1, e2, e3, show ((j.natAbs : Nat) : Int) = j by omega, show ((i.natAbs : Nat) : Int) = i by omega, show (((j - i).natAbs : Nat) : Int) = j - i by omega] at t
  have m1 := Int.mul_le_mul_of_nonneg_left h (show 0 ≤ j - i by omega)
  have e4 : j * sz U = i * sz U + (j - i) * sz U := by
    rw [← Int.add_mul]
    congr 1
    omega
  have : i * sz U ≤ i * sz V := by omega
  exact Int.le_of_mul_le_mul_left this hi
theorem step_two {x y z : Int × Int} {m : Int} (hyx : ∀ k, sz y ≤ sz (sbm y x k)) (hz : z = sbm x y m) (h1 : sz y < sz x) (h2 : sz z < sz y) : 2 ≤ (m.natAbs : Int) := by
  have n0 : m ≠ 0 := fun h => by
    have e : sbm x y 0 = x := by
      unfold sbm
      refine Prod.ext ?_ ?_ <;> dsimp only <;> omega
    rw [hz, h, e] at h2
    omega
  have n1 : m ≠ 1 := fun h => by
    have := hyx 1
    have e : sbm y x 1 = (-(sbm x y 1).1, -(sbm x y 1).2) := by
      unfold sbm
      refine Prod.ext ?_ ?_ <;> dsimp only <;> omega
    rw [e, sz_neg, ← h, ← hz] at this
    omega
  have n2 : m ≠ -1 := fun h => by
    have := hyx (-1)
    have e : sbm y x (-1) = sbm x y (-1) := by
      unfold sbm
      refine Prod.ext ?_ ?_ <;> dsimp only <;> omega
    rw [e, ← h, ← hz] at this
    omega
  omega
theorem halve {x y z t : Int × Int} {m m' : Int} (hyx : ∀ k, sz y ≤ sz (sbm y x k)) (hz : z = sbm x y m) (hzy : ∀ k, sz z ≤ sz (sbm z y k)) (ht : t = sbm y z m') (h1 : sz y < sz x) (h2 : sz z < sz y) (h3 : sz t < sz z) : 2 * sz z ≤ sz x := by
  have a1 := step_two hyx hz h1 h2
  have a2 := step_two hzy ht h2 h3
  have zz := sz_nn z
  have ex : ∀ c : Int × Int → Int, (c = Prod.fst ∨ c = Prod.snd) → c x = m * c t + (m * m' + 1) * c z ∧ c y = c t + m' * c z := by
    intro c hc
    have hz' : c z = c x - m * c y := by rcases hc with rfl | rfl <;> rw [hz] <;> rfl
    have ht' : c t = c y - m' * c z := by rcases hc with rfl | rfl <;> rw [ht] <;> rfl
    have hy' : c y = c t + m' * c z := by omega
    refine ⟨?_, hy'⟩
    have hx' : c x = m * c y + c z := by omega
    rw [hx', hy', Int.mul_add, Int.add_mul, Int.mul_assoc]
    omega
  obtain ⟨x1, y1⟩ := ex Prod.fst (.inl rfl)
  obtain ⟨x2, y2⟩ := ex Prod.snd (.inr rfl)
  obtain ⟨A, hA⟩ : ∃ A : Int × Int, A = (m * t.1, m * t.2) := ⟨_, rfl⟩
  have sA : sz A = (m.natAbs : Int) * sz t := by rw [hA, sz_mul]
  have tA : (m.natAbs : Int) * sz t ≤ (m.natAbs : Int) * sz z := Int.mul_le_mul_of_nonneg_left (by omega) (by omega)
  have two : 2 * sz z ≤ (m.natAbs : Int) * sz z := Int.mul_le_mul_of_nonneg_right a1 zz
  have prod : ((m * m').natAbs : Int) = (m.natAbs : Int) * (m'.natAbs : Int) := by rw [Int.natAbs_mul, Int.natCast_mul]
  have pge : (m.natAbs : Int) * 2 ≤ (m.natAbs : Int) * (m'.natAbs : Int) := Int.mul_le_mul_of_nonneg_left a2 (by omega)
  by_cases hs : 0 < m * m'
  · have my : sz (A.1 + m * m' * z.1, A.2 + m * m' * z.2) = (m.natAbs : Int) * sz y := by
      rw [← sz_mul, hA, y1, y2]
      congr 1
      refine Prod.ext ?_ ?_ <;> dsimp only <;> rw [Int.mul_add, Int.mul_assoc]
    have ty : (m.natAbs : Int) * sz z ≤ (m.natAbs : Int) * sz y := Int.mul_le_mul_of_nonneg_left (by omega) (by omega)
    have l := line_mono (A := A) (B := z) hs (show m * m' ≤ m * m' + 1 by omega) (by rw [my, sA]; omega)
    have e : (A.1 + (m * m' + 1) * z.1, A.2 + (m * m' + 1) * z.2) = x := by
      rw [hA]
      exact Prod.ext x1.symm x2.symm
    rw [e, my] at l
    omega
  · have hs' : m * m' < 0 := by
      have : ((m * m').natAbs : Int) ≠ 0 := by omega
      omega
    obtain ⟨j, hj⟩ : ∃ j, j = -(m * m') := ⟨_, rfl⟩
    obtain ⟨s, hs1, hs2⟩ : ∃ s : Int, (s = 1 ∨ s = -1) ∧ m * s = (m.natAbs : Int) := by
      rcases Int.le_total 0 m with h | h
      · exact ⟨1, .inl rfl, by omega⟩
      · exact ⟨-1, .inr rfl, by omega⟩
    have near : sz z ≤ sz (y.1 + s * z.1, y.2 + s * z.2) := by
      have h := hzy (-s)
      have e : sbm z y (-s) = (s * (y.1 + s * z.1), s * (y.2 + s * z.2)) := by
        unfold sbm
        rcases hs1 with rfl | rfl <;> refine Prod.ext ?_ ?_ <;> dsimp only <;> omega
      rw [e, sz_mul (x := (y.1 + s * z.1, y.2 + s * z.2))] at h
      rcases hs1 with rfl | rfl <;> simpa using h
    have l0 : sz (A.1 + (j - (m.natAbs : Int)) * (-z.1, -z.2).1, A.2 + (j - (m.natAbs : Int)) * (-z.1, -z.2).2) = (m.natAbs : Int) * sz (y.1 + s * z.1, y.2 + s * z.2) := by
      rw [← sz_mul, hA, y1, y2, hj, ← hs2]
      congr 1
      refine Prod.ext ?_ ?_
      · show m * t.1 + (-(m * m') - m * s) * -z.1 = m * (t.1 + m' * z.1 + s * z.1)
        rw [Int.mul_add, Int.mul_add, Int.mul_neg, Int.sub_mul, Int.neg_mul, Int.mul_assoc, Int.mul_assoc]
        omega
      · show m * t.2 + (-(m * m') - m * s) * -z.2 = m * (t.2 + m' * z.2 + s * z.2)
        rw [Int.mul_add, Int.mul_add, Int.mul_neg, Int.sub_mul, Int.neg_mul, Int.mul_assoc, Int.mul_assoc]
        omega
    have ny : (m.natAbs : Int) * sz z ≤ (m.natAbs : Int) * sz (y.1 + s * z.1, y.2 + s * z.2) := Int.mul_le_mul_of_nonneg_left near (by omega)
    have l := line_mono (A := A) (B := (-z.1, -z.2)) (i := j - (m.natAbs : Int)) (j := j - 1) (by omega) (by omega) (by rw [l0, sA]; omega)
    have e : (A.1 + (j - 1) * (-z.1, -z.2).1, A.2 + (j - 1) * (-z.1, -z.2).2) = x := by
      rw [hA, hj]
      refine Prod.ext ?_ ?_
      · show m * t.1 + (-(m * m') - 1) * -z.1 = x.1
        rw [x1, Int.mul_neg, Int.sub_mul, Int.neg_mul, Int.add_mul]
        omega
      · show m * t.2 + (-(m * m') - 1) * -z.2 = x.2
        rw [x2, Int.mul_neg, Int.sub_mul, Int.neg_mul, Int.add_mul]
        omega
    rw [e, l0] at l
    omega
end IPL
end
section
set_option linter.all false
set_option maxRecDepth 100000
set_option maxHeartbeats 1000000
namespace IPL
open IP
open PySem (PyData)
local macro_rules | `(tactic| infer_instance) => `(tactic| ((repeat' (first | with_reducible exact rfl | with_reducible assumption | with_reducible apply EV.bo_nt | with_reducible apply EV.bo_nf | with_reducible refine decide_eq_true ?_ | with_reducible refine decide_eq_false ?_ | with_reducible apply EV.bne_t | with_reducible apply EV.bne_f | omega)); done))
local macro_rules | `(tactic| and_intros) => `(tactic| repeat' (first
  | with_reducible assumption
  | ((with_reducible apply EV.gdO); first
      | with_reducible apply EV.o_V
      | ((with_reducible apply EV.o_var); (with_reducible apply EV.get_of); exact rfl)
      | ((with_reducible apply EV.o_own); (with_reducible apply EV.get_of); exact rfl)
      | ((with_reducible apply EV.o_prm); (with_reducible apply EV.get_of); exact rfl))
  | ((with_reducible apply EV.gdV); first
      | with_reducible exact EV.e_C
      | ((with_reducible apply EV.e_var); (with_reducible apply EV.get_of); exact rfl)
      | ((with_reducible apply EV.e_varO); ((with_reducible apply EV.get_of); exact rfl))
      | with_reducible apply EV.e_bin
      | ((with_reducible apply EV.e_call); (focus (and_intros; done)); (focus (and_intros; done)); ((with_reducible apply EV.any_of); exact rfl))
      | ((with_reducible apply EV.e_callD); (focus (and_intros; done)); (focus (and_intros; done)); (focus (and_intros; done)); first | with_reducible exact EV.noT | with_reducible exact EV.noI | with_reducible exact EV.noB | with_reducible exact EV.noN | with_reducible assumption | exact EV.noT)
      | with_reducible apply EV.e_bi
      | (with_reducible apply EV.e_sl)
      | with_reducible apply EV.e_tup
      | with_reducible apply EV.e_un
      | ((with_reducible apply EV.e_callRo); ((with_reducible apply EV.ow_o); (with_reducible apply EV.get_of); exact rfl))
      | ((with_reducible apply EV.e_callRp); ((with_reducible apply EV.ow_p); (with_reducible apply EV.get_of); exact rfl))
      | with_reducible apply EV.e_lc
      | ((with_reducible apply EV.andV_t); (focus infer_instance))
      | ((with_reducible apply EV.andV_f); (focus infer_instance))
      | ((with_reducible apply EV.orV_f); (focus infer_instance))
      | ((with_reducible apply EV.orV_t); (focus infer_instance))
      | ((with_reducible apply EV.iteV_t); (focus infer_instance))
      | ((with_reducible apply EV.iteV_f); (focus infer_instance))
      | ((with_reducible apply EV.chK_t); (focus infer_instance))
      | ((with_reducible apply EV.chK_f); (focus infer_instance))
      | ((with_reducible apply EV.e_fld); (focus (and_intros; done)); (focus exact rfl); (focus exact rfl))
      | ((with_reducible apply EV.e_flen); (focus (and_intros; done)))
      | ((with_reducible apply EV.e_ftup); (focus (and_intros; done)))
      | ((with_reducible apply EV.e_fix); (focus (and_intros; done)); (focus ((with_reducible apply EV.get_of); exact rfl)))
      | ((with_reducible apply EV.e_meth); (focus (and_intros; done)); (focus (and_intros; done)); (focus (and_intros; done)); (focus (and_intros; done)))
      | ((with_reducible apply EV.e_callNF); (focus (and_intros; done)); (focus (and_intros; done)); (focus ((with_reducible apply EV.prop_of); with_reducible assumption)); (focus exact rfl); (focus exact rfl))
      | ((with_reducible apply EV.e_callNM); (focus (and_intros; done)); (focus (and_intros; done)))
      | with_reducible apply EV.e_lc2
      | with_reducible apply EV.e_lst
      | with_reducible apply EV.e_not
      | with_reducible apply EV.e_and
      | with_reducible apply EV.e_or
      | with_reducible apply EV.e_ite
      | (with_reducible apply EV.e_chain)
      | with_reducible exact EV.e_dnew
      | with_reducible exact EV.e_disp
      | ((with_reducible apply EV.e_dixV); (focus (and_intros; done)); (focus (and_intros; done)); (focus (and_intros; done)); (focus (first | with_reducible assumption | exact rfl)))
      | ((with_reducible apply EV.e_din); (focus (and_intros; done)); (focus (and_intros; done)); (focus (first | with_reducible assumption | exact rfl)))
      | ((with_reducible apply EV.e_dnin); (focus (and_intros; done)); (focus (and_intros; done)); (focus (first | with_reducible assumption | exact rfl)))
      | ((with_reducible apply EV.e_dget); (focus (and_intros; done)); (focus (and_intros; done)); (focus (and_intros; done)); (focus (and_intros; done)); (focus (first | with_reducible assumption | exact rfl))))
  | ((with_reducible apply EV.gdG); first
      | ((with_reducible apply EV.get_of); exact rfl))
  | ((with_reducible apply EV.gdD); first
      | with_reducible exact EV.rd_v
      | with_reducible apply EV.rd_o
      | with_reducible apply EV.rd_p)
  | ((with_reducible apply EV.gdA); first
      | with_reducible exact EV.a_n
      | ((with_reducible apply EV.a_app); (focus (and_intros; done)))
      | with_reducible apply EV.a_c)
  | ((with_reducible apply EV.gdR); first
      | ((with_reducible apply EV.gdRb); first
      | ((with_reducible apply EV.gh_bIx); first | ((with_reducible apply EV.p_ixNegM) <;> first | assumption | omega) | ((with_reducible apply EV.p_ix0); first | assumption | omega) | with_reducible exact EV.p_ix20 | with_reducible exact EV.p_ix21 | with_reducible exact EV.p_ix30 | with_reducible exact EV.p_ix31 | with_reducible exact EV.p_ix32 | ((with_reducible apply EV.p_ixLastT); assumption) | ((with_reducible apply EV.p_ixNegT); first | assumption | omega) | ((with_reducible apply EV.p_ixNegL); first | assumption | omega) | ((with_reducible apply EV.p_ixT); first | assumption | omega) | ((with_reducible apply EV.p_ixL); first | assumption | omega) | ((with_reducible apply EV.p_ixT') <;> first | assumption | omega) | ((with_reducible apply EV.p_ixL') <;> first | assumption | omega) | ((with_reducible apply IPL.p_ixTT); first | assumption | omega) | ((with_reducible apply IPL.p_ixLT); first | assumption | omega) | ((with_reducible apply EV.p_ixDT); first | assumption | omega) | ((with_reducible apply EV.p_ixDL); first | assumption | omega))
      | ((with_reducible apply EV.gh_bAdd); first | with_reducible exact EV.p_add | ((with_reducible apply EV.p_addT); (with_reducible apply EV.line_of); first | assumption | omega) | ((with_reducible apply EV.p_addL); (with_reducible apply EV.line_of); first | assumption | omega) | ((with_reducible apply EV.p_addsL); first | assumption | omega) | ((with_reducible apply EV.p_addTs); (with_reducible apply EV.line_of); first | assumption | omega) | ((with_reducible apply EV.p_addsT); (with_reducible apply EV.line_of); first | assumption | omega))
      | with_reducible exact EV.p_sub
      | ((with_reducible apply EV.p_mod); first | assumption | omega)
      | ((with_reducible apply EV.gh_bMul); first | ((with_reducible apply EV.p_repL) <;> omega) | ((with_reducible apply EV.p_repT) <;> omega) | ((with_reducible apply EV.p_mulL); first | assumption | omega) | ((with_reducible apply EV.p_mulR); first | assumption | omega) | ((with_reducible apply EV.p_mulB); first | assumption | omega))
      | ((with_reducible apply EV.p_fdiv) <;> first | assumption | omega)
      | ((with_reducible apply EV.p_fdivB) <;> first | assumption | omega)
      | ((with_reducible apply EV.gh_bPow); first | with_reducible exact EV.p_pow12 | with_reducible exact EV.p_pow17 | with_reducible exact EV.p_pow60 | with_reducible exact EV.p_pow15 | with_reducible exact EV.p_pow18)
      | with_reducible exact EV.p_lt
      | with_reducible exact EV.p_le
      | with_reducible exact EV.p_gt
      | with_reducible exact EV.p_ge
      | ((with_reducible apply EV.gh_bEq); first | with_reducible exact EV.p_eq | with_reducible exact IPL.p_eqT | with_reducible exact IPL.p_eqT1 | with_reducible exact IPL.p_eqL | with_reducible exact IPL.p_eqL0 | with_reducible exact IPL.p_eqT0 | with_reducible exact IPL.p_eqL1 | with_reducible exact IPL.p_eqTT | with_reducible exact IPL.p_eqLT | with_reducible exact EV.p_eqB)
      | ((with_reducible apply EV.gh_bNe); first | with_reducible exact EV.p_ne | with_reducible exact IPL.p_neT | with_reducible exact IPL.p_neT1 | with_reducible exact IPL.p_neL | with_reducible exact IPL.p_neT0 | with_reducible exact IPL.p_neL1 | with_reducible exact IPL.p_neTT | with_reducible exact IPL.p_neLT | with_reducible exact IPL.p_neL0 | with_reducible exact EV.p_neB)
      | ((with_reducible apply EV.p_xor) <;> first | assumption | omega)
      | with_reducible exact EV.p_shrN
      | with_reducible exact EV.p_and1
      | ((with_reducible apply EV.p_and) <;> first | assumption | omega))
      | ((with_reducible apply EV.gdRi); first
      | ((with_reducible apply EV.gh_biLen); first | with_reducible exact EV.b_len2 | with_reducible exact EV.b_len3 | with_reducible exact EV.b_lenT | with_reducible exact EV.b_lenL | with_reducible exact EV.b_lenT' | with_reducible exact EV.b_lenL')
      | with_reducible exact EV.b_int
      | with_reducible exact EV.b_intB
      | with_reducible exact EV.b_tupL
      | with_reducible exact EV.b_tupT
      | with_reducible exact EV.b_lstL
      | with_reducible exact EV.b_lstT
      | with_reducible exact EV.b_sum
      | with_reducible exact EV.b_sum2L
      | with_reducible exact EV.b_sum2T
      | with_reducible exact EV.b_any2L
      | with_reducible exact EV.b_abs
      | with_reducible exact EV.b_max
      | with_reducible exact EV.b_min
      | with_reducible exact EV.b_gcd)
      | ((with_reducible apply EV.gdRu); first
      | ((with_reducible apply EV.gh_uIs); first | with_reducible exact EV.is_ii | with_reducible exact EV.is_bi | with_reducible exact EV.is_tt | with_reducible exact EV.is_tl | with_reducible exact EV.is_lt | with_reducible exact EV.is_ll)
      | ((with_reducible apply EV.gh_uIsN); first | with_reducible exact EV.uisn | with_reducible exact EV.uisn_i | with_reducible exact EV.uisn_t)
      | ((with_reducible apply EV.gh_uNotN); first | with_reducible exact EV.unn | with_reducible exact EV.unn_i | with_reducible exact EV.unn_t)
      | with_reducible exact EV.p_bitsN
      | with_reducible exact EV.p_neg
      | with_reducible exact EV.p_revT
      | with_reducible exact EV.p_revL
      | with_reducible exact EV.p_tupRev)
      | ((with_reducible apply EV.gh_cutR); first | with_reducible exact EV.cut_to1 | with_reducible exact EV.cut_to1L | with_reducible exact EV.cut_fr1 | with_reducible exact EV.cut_fr1L | with_reducible exact EV.cut_toT | with_reducible exact EV.cut_toL | with_reducible exact EV.cut_frT | with_reducible exact EV.cut_frL | with_reducible exact EV.cut_lastT | with_reducible exact EV.cut_last1 | with_reducible exact EV.cut_last1L | ((with_reducible apply EV.cut_toI); first | assumption | omega) | ((with_reducible apply EV.cut_frI); first | assumption | omega) | with_reducible exact EV.cut_lastL)
      | ((with_reducible apply EV.gh_outR); first | with_reducible exact EV.or_n | with_reducible exact EV.or_r | ((with_reducible apply EV.or_of); exact rfl) | ((with_reducible apply EV.or_bt); focus infer_instance)))
  | ((with_reducible apply EV.gdS); first
      | with_reducible apply EV.s_seq
      | ((with_reducible apply EV.gh_seqK); first | with_reducible exact EV.q_rt | with_reducible apply EV.q_nx | with_reducible exact EV.q_bk | with_reducible exact EV.q_ct | with_reducible exact EV.q_ro)
      | with_reducible apply EV.s_set
      | with_reducible apply EV.s_if
      | ((with_reducible apply EV.if_t); (focus infer_instance))
      | ((with_reducible apply EV.if_f); (focus infer_instance))
      | with_reducible exact EV.s_pass
      | with_reducible apply EV.s_ret
      | with_reducible apply EV.s_ex
      | ((with_reducible apply EV.s_appI); ((with_reducible apply EV.ow_o); (with_reducible apply EV.get_of); exact rfl); (focus (and_intros; done)); ((with_reducible apply EV.get_of); exact rfl))
      | ((with_reducible apply EV.s_appO); ((with_reducible apply EV.ow_o); (with_reducible apply EV.get_of); exact rfl))
      | ((with_reducible apply EV.s_fld); (focus (and_intros; done)); (focus (and_intros; done)); (focus exact rfl); (focus (and_intros; done)); (focus exact rfl); (focus exact rfl))
      | ((with_reducible apply EV.s_faug); (focus (and_intros; done)); (focus exact rfl); (focus exact rfl); (focus (and_intros; done)); (focus (and_intros; done)); (focus exact rfl); (focus exact rfl))
      | ((with_reducible apply EV.s_fapp); (focus (and_intros; done)); (focus ((with_reducible apply EV.get_of); exact rfl)); (focus (first | assumption | omega)))
      | ((with_reducible apply EV.s_callN); (focus (and_intros; done)); (focus (and_intros; done)))
      | ((with_reducible apply EV.s_retG); ((with_reducible apply EV.get_of); exact rfl))
      | with_reducible exact EV.s_brk
      | with_reducible exact EV.s_cnt
      | with_reducible exact EV.s_retN
      | with_reducible apply EV.s_unp
      | with_reducible apply EV.s_par
      | ((with_reducible apply EV.s_augI); ((with_reducible apply EV.get_of); exact rfl))
      | ((with_reducible apply EV.s_setIxN); (focus (and_intros; done)); (focus ((with_reducible apply EV.ow_o); (with_reducible apply EV.get_of); exact rfl)); (focus (and_intros; done)); (focus ((with_reducible apply EV.get_of); exact rfl)); (focus (first | assumption | omega)))
      | ((with_reducible apply EV.s_setIxI); (focus (and_intros; done)); (focus ((with_reducible apply EV.ow_o); (with_reducible apply EV.get_of); exact rfl)); (focus (and_intros; done)); (focus ((with_reducible apply EV.get_of); exact rfl)); (focus (first | assumption | omega)))
      | ((with_reducible apply EV.s_augIxN); (focus ((with_reducible apply EV.ow_o); (with_reducible apply EV.get_of); exact rfl)); (focus (and_intros; done)); (focus ((with_reducible apply EV.get_of); exact rfl)); (focus (and_intros; done)); (focus ((with_reducible apply EV.get_of); exact rfl)); (focus (first | assumption | omega)))
      | ((with_reducible apply EV.s_pop); (focus ((with_reducible apply EV.get_of); exact rfl)); (focus assumption))
      | ((with_reducible apply EV.s_setIx); (focus (and_intros; done)); ((with_reducible apply EV.ow_o); (with_reducible apply EV.get_of); exact rfl); (focus (and_intros; done)); ((with_reducible apply EV.get_of); exact rfl))
      | with_reducible apply EV.s_for
      | with_reducible apply EV.s_while
      | ((with_reducible apply EV.s_dset); (focus (and_intros; done)); (focus (and_intros; done)); (focus (and_intros; done)); (focus (and_intros; done)); (focus (and_intros; done)); (focus (first | with_reducible assumption | exact rfl))))
  | ((with_reducible apply EV.gdL); first
      | ((with_reducible apply EV.gP); ((with_reducible apply EV.get_of); exact rfl))
      | ((with_reducible apply EV.gO); ((with_reducible apply EV.get_of); exact rfl))
      | with_reducible exact EV.ra_n
      | with_reducible apply EV.ra_c
      | with_reducible exact EV.vs_n
      | with_reducible apply EV.vs_c)
  | ((with_reducible apply EV.gdE); first
      | ((with_reducible apply EV.gh_setSlot); first | with_reducible exact EV.st_0u | with_reducible exact EV.st_0d | with_reducible exact EV.st_0o | ((with_reducible apply EV.st_0f); first | assumption | exact EV.fr_d | exact EV.fr_u) | ((with_reducible apply EV.st_0g); assumption) | with_reducible apply EV.st_s | with_reducible exact EV.st_0k)
      | with_reducible exact EV.u_n
      | ((with_reducible apply EV.u_u); ((with_reducible apply EV.get_of); exact rfl))
      | ((with_reducible apply EV.u_d); ((with_reducible apply EV.get_of); exact rfl))
      | with_reducible apply EV.t_nm
      | with_reducible apply EV.t_tup
      | with_reducible exact EV.sd_n
      | with_reducible apply EV.sd_c
      | with_reducible exact EV.sr_n
      | with_reducible apply EV.sr_c)
  | ((with_reducible apply EV.gdT); first
      | with_reducible apply EV.t_B
      | with_reducible apply EV.t_V
      | with_reducible apply EV.t_not
      | with_reducible apply EV.t_and
      | with_reducible apply EV.t_or
      | ((with_reducible apply EV.orT_f); (focus infer_instance))
      | ((with_reducible apply EV.orT_t); (focus infer_instance))
      | ((with_reducible apply EV.andT_t); (focus infer_instance))
      | ((with_reducible apply EV.andT_f); (focus infer_instance)))
  | ((with_reducible apply EV.gdLs); first
      | with_reducible exact EV.ls_0
      | with_reducible apply EV.ls_s)
  | ((with_reducible apply EV.gdSl); first
      | with_reducible exact EV.so_d
      | with_reducible exact EV.so_n
      | with_reducible exact EV.so_nd)
  | ((with_reducible apply EV.gdBo); first
      | with_reducible exact EV.stl_n
      | ((with_reducible apply EV.stl_o); (with_reducible apply EV.get_of); exact rfl)
      | ((with_reducible apply EV.bo_nf); focus infer_instance)
      | ((with_reducible apply EV.bo_nt); focus infer_instance))
  | ((with_reducible apply EV.gdEn); first
      | ((with_reducible apply EV.pP); (focus ((with_reducible apply EV.get_of); exact rfl)))
      | ((with_reducible apply EV.pO); (focus ((with_reducible apply EV.get_of); exact rfl)))
      | with_reducible exact EV.ba_n
      | ((with_reducible apply EV.ba_c); ((with_reducible apply EV.get_of); exact rfl)))
  | ((with_reducible apply EV.gdDd); first
      | with_reducible exact EV.td_d
      | with_reducible exact EV.td_n
      | with_reducible exact EV.td_nd)
  | ((with_reducible apply EV.gdI); first
      | ((with_reducible apply EV.i_r1); (focus (and_intros; done)); omega)
      | ((with_reducible apply EV.i_r1'); (focus (and_intros; done)); omega; omega)
      | ((with_reducible apply EV.i_r2); (focus (and_intros; done)); (focus (and_intros; done)); omega; omega; omega; omega)
      | ((with_reducible apply EV.i_rT); (focus (and_intros; done)))
      | ((with_reducible apply EV.i_rL); (focus (and_intros; done)))
      | ((with_reducible apply EV.i_zT); (focus (and_intros; done)); (focus (and_intros; done)))
      | ((with_reducible apply EV.i_zL); (focus (and_intros; done)); (focus (and_intros; done)))
      | ((with_reducible apply EV.i_enT); (focus (and_intros; done)))
      | ((with_reducible apply EV.i_enL); (focus (and_intros; done)))
      | ((with_reducible apply EV.i_rr1); (focus (and_intros; done)); omega)
      | ((with_reducible apply EV.i_ET); (focus (and_intros; done)))
      | ((with_reducible apply EV.i_E); (focus (and_intros; done)))
      | ((with_reducible apply EV.i_EO); (focus (and_intros; done)); (focus (and_intros; done))))
  | ((with_reducible apply EV.gdTr); first
      | ((with_reducible apply EV.gh_truth); first | with_reducible exact EV.tr_b | with_reducible exact EV.tr_T | with_reducible exact EV.tr_L | with_reducible exact EV.tr_i | with_reducible exact EV.tr_n))
  | ((with_reducible apply EV.gdLc); first
      | ((with_reducible apply EV.l_intR); (intro _ _; with_reducible apply EV.lt_y))
      | ((with_reducible apply EV.l_int); (intro _ _; with_reducible apply EV.lt_y)))
  | ((with_reducible apply EV.gdP); first
      | with_reducible exact EV.pe_n
      | with_reducible apply EV.pe_c)
  | ((with_reducible apply EV.gdPo); first
      | with_reducible exact EV.pn
      | with_reducible apply EV.ps)
  | ((with_reducible apply EV.line_of); first | assumption | (simp only [List.length_map, List.length_range, List.length_append, List.length_cons, List.length_nil, List.length_reverse, List.length_zip, List.length_take, List.length_drop, List.length_dropLast]; omega))
  | ((with_reducible apply EV.line_lt); first | assumption | (simp only [List.length_map, List.length_range, List.length_append, List.length_cons, List.length_nil, List.length_reverse, List.length_zip, List.length_take, List.length_drop, List.length_dropLast]; omega))
  | ((with_reducible apply EV.dctI_of); ((with_reducible apply EV.get_of); exact rfl))))
abbrev redT (c : Call) : Et := tB (fBin bLt (oV (vCall (c "_size") (aCons (oVar 2) aNil))) (oV (vCall (c "_size") (aCons (oVar 0) aNil))))
theorem red_turn (n : Nat) {N0 : Nat} (hN0 : N0 ≤ 4000) {x y : Int × Int} (o : D) (hx : bz N0 x) (hy : bz N0 y) (hy0 : y ≠ (0, 0)) (hlt : sz y < sz x) (f : Nat) : ∃ k, whileGo (redT (run (n + 2))) (W__reduced_1 (run (n + 2))) (f + 1) [.dat (pD x), .dat o, .dat (pD y)] = whileGo (redT (run (n + 2))) (W__reduced_1 (run (n + 2))) f [.dat (pD y), .dat (pD x), .dat (pD (sbm x y k))] ∧ ∀ m, sz (sbm x y k) ≤ sz (sbm x y m) := by
  obtain ⟨k, e, hk⟩ := I__nearest n hN0 hx hy hy0
  refine ⟨k, ?_, hk⟩
  have e1 := I__size (n + 1) x
  have e2 := I__size (n + 1) y
  have q0 : decide (sz y < sz x) = true := decide_eq_true hlt
  have b : W__reduced_1 (run (n + 2)) [.dat (pD x), .dat o, .dat (pD y)] = some (.nx, [.dat (pD y), .dat (pD x), .dat (pD (sbm x y k))]) := by
    generalize pD (sbm x y k) = R at *
    generalize pD x = X at *
    generalize pD y = Y at *
    and_intros
  have t : redT (run (n + 2)) [.dat (pD x), .dat o, .dat (pD y)] = some (true, [.dat (pD x), .dat o, .dat (pD y)]) := by
    rw [← q0]
    generalize pD x = X at *
    generalize pD y = Y at *
    generalize sz x = sx at *
    generalize sz y = sy at *
    and_intros
  rw [whileGo, t]
  simp only [Option.bind_some, if_true, b]
theorem red_stop (n : Nat) {x y : Int × Int} (o : D) (hlt : ¬ sz y < sz x) (f : Nat) : whileGo (redT (run (n + 2))) (W__reduced_1 (run (n + 2))) (f + 1) [.dat (pD x), .dat o, .dat (pD y)] = some (.nx, [.dat (pD x), .dat o, .dat (pD y)]) := by
  have e1 := I__size (n + 1) x
  have e2 := I__size (n + 1) y
  have q0 : decide (sz y < sz x) = false := decide_eq_false hlt
  have t : redT (run (n + 2)) [.dat (pD x), .dat o, .dat (pD y)] = some (false, [.dat (pD x), .dat o, .dat (pD y)]) := by
    rw [← q0]
    generalize pD x = X at *
    generalize pD y = Y at *
    generalize sz x = sx at *
    generalize sz y = sy at *
    and_intros
  rw [whileGo, t]
  rfl
theorem bz_sub {N0 : Nat} {x y : Int × Int} {k : Int} (hx : bz N0 x) (hk : ∀ m, sz (sbm x y k) ≤ sz (sbm x y m)) : bz N0 (sbm x y k) := by
  have := hk 0
  have e : sbm x y 0 = x := by
    unfold sbm
    refine Prod.ext ?_ ?_ <;> dsimp only <;> omega
  rw [e] at this
  have h := bz_lt hx
  exact bz_of (by omega)
theorem red_loop (n : Nat) {P w : Int} (hP : 0 < P) {N0 : Nat} (hN0 : N0 ≤ 4000) : ∀ (N : Nat) (x y : Int × Int) (o : D) (f : Nat), 2 * N + 3 ≤ f → Bas P w x y → (∀ m, sz y ≤ sz (sbm y x m)) → sz x < 2 ^ N → bz N0 x → bz N0 y →
    ∃ (u v : Int × Int) (o' : D), whileGo (redT (run (n + 2))) (W__reduced_1 (run (n + 2))) f [.dat (pD x), .dat o, .dat (pD y)] = some (.nx, [.dat (pD u), .dat o', .dat (pD v)]) ∧ Bas P w u v ∧ Red u v := by
  intro N
  induction N with
  | zero =>
    intro x y o f hf B hyx hx bx byy
    exfalso
    have h0 : sz x = 0 := by
      have := sz_nn x
      have : sz x < 1 := hx
      omega
    exact B.swap.nz hP (sz_zero h0)
  | succ N ih =>
    intro x y o f hf B hyx hx bx byy
    obtain ⟨f, rfl⟩ : ∃ g, f = g + 1 := ⟨f - 1, by omega⟩
    by_cases c1 : sz y < sz x
    · obtain ⟨k, e1, hk⟩ := red_turn n hN0 o bx byy (B.nz hP) c1 f
      rw [e1]
      have B2 := B.swap.step k
      have bz2 := bz_sub bx hk
      have hzy : ∀ m, sz (sbm x y k) ≤ sz (sbm (sbm x y k) y m) := fun m => by
        rw [sbm_sbm]
        exact hk _
      obtain ⟨z, hz⟩ : ∃ z, z = sbm x y k := ⟨_, rfl⟩
      rw [← hz] at B2 bz2 hzy ⊢
      obtain ⟨f, rfl⟩ : ∃ g, f = g + 1 := ⟨f - 1, by omega⟩
      by_cases c2 : sz z < sz y
      · obtain ⟨k2, e2, hk2⟩ := red_turn n hN0 (pD x) byy bz2 (B2.nz hP) c2 f
        rw [e2]
        have B3 := B2.swap.step k2
        have bz3 := bz_sub byy hk2
        have htz : ∀ m, sz (sbm y z k2) ≤ sz (sbm (sbm y z k2) z m) := fun m => by
          rw [sbm_sbm]
          exact hk2 _
        obtain ⟨t, ht⟩ : ∃ t, t = sbm y z k2 := ⟨_, rfl⟩
        rw [← ht] at B3 bz3 htz ⊢
        by_cases c3 : sz t < sz z
        · have hv := halve hyx hz hzy ht c1 c2 c3
          refine ih z t (pD y) f (by omega) B3 htz ?_ bz2 bz3
          have : (2 : Int) ^ (N + 1) = 2 * 2 ^ N := by rw [Int.pow_succ, Int.mul_comm]
          omega
        · obtain ⟨f, rfl⟩ : ∃ g, f = g + 1 := ⟨f - 1, by omega⟩
          exact ⟨z, t, pD y, red_stop n (pD y) c3 f, B3, ⟨by omega, B2.nz hP, htz⟩⟩
      · exact ⟨y, z, pD x, red_stop n (pD x) c2 f, B2, ⟨by omega, B.nz hP, hzy⟩⟩
    · exact ⟨x, y, o, red_stop n o c1 f, B, ⟨by omega, B.swap.nz hP, hyx⟩⟩
theorem I__reduced (n : Nat) {P w : Int} (hP : 0 < P) {N0 : Nat} (hN0 : N0 ≤ 4000) {a b : Int × Int} (B : Bas P w a b) (ha : bz N0 a) (hb : bz N0 b) : ∃ u v, run (n + 3) "_reduced" none [pD a, pD b] = some (.dat (.tuple [pD u, pD v]), none) ∧ Bas P w u v ∧ Red u v := by
  have key : ∀ x y : Int × Int, Bas P w x y → bz N0 x → bz N0 y → ∃ (k : Int) (u v : Int × Int) (o' : D), run (n + 2) "_nearest" none [pD y, pD x] = some (.dat (pD (sbm y x k)), none) ∧ whileGo (redT (run (n + 2))) (W__reduced_1 (run (n + 2))) turns [.dat (pD x), .dat (pD y), .dat (pD (sbm y x k))] = some (.nx, [.dat (pD u), .dat o', .dat (pD v)]) ∧ Bas P w u v ∧ Red u v := by
    intro x y B hx hy
    obtain ⟨k, e, hk⟩ := I__nearest n hN0 hy hx (B.swap.nz hP)
    obtain ⟨u, v, o', e2, h1, h2⟩ := red_loop n hP hN0 N0 x (sbm y x k) (pD y) turns (by show _ ≤ 1000000; omega) (B.step k) (fun m => by
      rw [sbm_sbm]
      exact hk _) (bz_lt hx) hx (bz_sub hy hk)
    exact ⟨k, u, v, o', e, e2, h1, h2⟩
  have e1 := I__size (n + 1) a
  have e2 := I__size (n + 1) b
  by_cases c : sz b < sz a
  · obtain ⟨k, u, v, o', e3, e4, h1, h2⟩ := key b a B.swap hb ha
    refine ⟨u, v, ?_, h1, h2⟩
    have q0 : decide (sz b < sz a) = true := decide_eq_true c
    generalize pD (sbm a b k) = R at *
    generalize pD a = A at *
    generalize pD b = C at *
    generalize pD u = U at *
    generalize pD v = V at *
    clear key c
    apply go__reduced
    and_intros
  · obtain ⟨k, u, v, o', e3, e4, h1, h2⟩ := key a b B ha hb
    refine ⟨u, v, ?_, h1, h2⟩
    have q0 : decide (sz b < sz a) = false := decide_eq_false c
    generalize pD (sbm b a k) = R at *
    generalize pD a = A at *
    generalize pD b = C at *
    generalize pD u = U at *
    generalize pD v = V at *
    clear key c
    apply go__reduced
    and_intros
theorem I__fitting (n : Nat) {p : Int} (hp : isPrime p) (u v : Int × Int) : run (n + 1) "_fitting" none [.int p, .tuple [pD u, pD v]] = some (.dat (pD (if u.2 % p ≠ 0 then u else v)), none) := by
  have pp := prime_pos hp
  have i0 : bIx (.tuple [pD u, pD v]) (.int 0) = some (.dat (pD u)) := rfl
  have i1 : bIx (.tuple [pD u, pD v]) (.int 1) = some (.dat (pD v)) := rfl
  have j1 : bIx (pD u) (.int 1) = some (.dat (.int u.2)) := rfl
  by_cases c : u.2 % p ≠ 0
  · rw [if_pos c]
    have q0 : (!decide (u.2 % p = 0)) = true := by simp [c]
    generalize pD u = U at *
    generalize pD v = V at *
    apply go__fitting
    and_intros
  · rw [if_neg c]
    have q0 : (!decide (u.2 % p = 0)) = false := by simp at c; simp [c]
    generalize pD u = U at *
    generalize pD v = V at *
    apply go__fitting
    and_intros
theorem I__least_of (n : Nat) {p : Int} (hp : isPrime p) {row : List Int} (hn : nums p row) (hl : row.length ≤ 400) : ∃ x, run (n + 4) "_least_of" none [.int p, iT row] = some (.dat (pD x), none) ∧ LeastF p row x := by
  have pp := prime_pos hp
  have P0 := pow_pos' hp row.length
  have e0 := I_check_prime (n + 1) hp
  have e1 := I_check_row n hn hl
  have e2 := I_power_of (n + 2) hp (e := row.length) (by omega)
  have e3 := I_value_of (n + 2) hp row
  have u1 : ub 1201 (val p row) := (ub_val hp hn (Nat.le_refl _)).mono (by omega)
  have u2 : ub 1201 (p ^ row.length) := (ub_pow hp row.length).mono (by omega)
  have u3 : ub 1201 1 := (ub_small (by omega) (by omega)).mono (by omega)
  have u4 : ub 1201 0 := (ub_small (by omega) (by omega)).mono (by omega)
  obtain ⟨u, v, e4, B, R⟩ := I__reduced n P0 (N0 := 1201) (by omega) (bas_init (p ^ row.length) (val p row)) ⟨u1, u3⟩ ⟨u2, u4⟩
  have e5 := I__fitting (n + 2) hp u v
  have L := leastF_of hp B R rfl
  obtain ⟨x, hx⟩ : ∃ x, x = if u.2 % p ≠ 0 then u else v := ⟨_, rfl⟩
  rw [← hx] at e5 L
  have bl : biLen [iT row] = some (.dat (.int (row.length : Int))) := by
    show some (Res.dat (.int ((row.map PyData.int).length : Int))) = _
    rw [List.length_map]
  clear B R hx u1 u2 u3 u4
  have e4 : run (n + 3) "_reduced" none [.tuple [.int (val p row), .int 1], .tuple [.int (p ^ row.length), .int 0]] = some (.dat (.tuple [pD u, pD v]), none) := e4
  generalize PyData.tuple [pD u, pD v] = UV at *
  by_cases c : 0 < x.2
  · rw [if_pos c] at L
    refine ⟨x, ?_, L⟩
    have q0 : decide (x.2 > 0) = true := decide_eq_true c
    clear L
    obtain ⟨a, b⟩ := x
    dsimp only at *
    generalize val p row = w at *
    generalize p ^ row.length = P at *
    apply go__least_of
    and_intros
  · rw [if_neg c] at L
    refine ⟨_, ?_, L⟩
    have q0 : decide (x.2 > 0) = false := decide_eq_false c
    clear L
    obtain ⟨a, b⟩ := x
    dsimp only at *
    generalize val p row = w at *
    generalize p ^ row.length = P at *
    apply go__least_of
    and_intros
theorem I_carry_span (n : Nat) {p : Int} {row : List Int} {x : Int × Int} (h : run (n + 1) "_least_of" none [.int p, iT row] = some (.dat (pD x), none)) (hx : 1 ≤ x.2) : run (n + 2) "carry_span" none [.int p, iT row] = some (.dat (.int (sz x)), none) := by
  have a0 : biAbs [.int x.1] = some (.dat (.int (x.1.natAbs : Int))) := by rw [biAbs, abs_nat]
  have m : biMax [.int (x.1.natAbs : Int), .int x.2] = some (.dat (.int (sz x))) := by
    rw [EV.b_max]
    have : (if x.2 > (x.1.natAbs : Int) then x.2 else (x.1.natAbs : Int)) = sz x := by
      unfold sz
      split <;> omega
    rw [this]
  generalize sz x = S at *
  obtain ⟨a, b⟩ := x
  dsimp only at *
  apply go_carry_span
  and_intros
theorem I_least_fraction (n : Nat) {p : Int} {row : List Int} {x : Int × Int} (h : run (n + 1) "_least_of" none [.int p, iT row] = some (.dat (pD x), none)) : run (n + 2) "least_fraction" none [.int p, iT row] = some (.dat (pD x), none) := by
  generalize pD x = X at *
  apply go_least_fraction
  and_intros
end IPL
end
section
set_option linter.all false
set_option maxRecDepth 100000
set_option maxHeartbeats 1000000
namespace IPL
open IP
open PySem (PyData)
local macro_rules | `(tactic| infer_instance) => `(tactic| ((repeat' (first | with_reducible exact rfl | with_reducible assumption | with_reducible apply EV.bo_nt | with_reducible apply EV.bo_nf | with_reducible refine decide_eq_true ?_ | with_reducible refine decide_eq_false ?_ | with_reducible apply EV.bne_t | with_reducible apply EV.bne_f | omega)); done))
local macro_rules | `(tactic| and_intros) => `(tactic| repeat' (first
  | with_reducible assumption
  | ((with_reducible apply EV.gdO); first
      | with_reducible apply EV.o_V
      | ((with_reducible apply EV.o_var); (with_reducible apply EV.get_of); exact rfl)
      | ((with_reducible apply EV.o_own); (with_reducible apply EV.get_of); exact rfl)
      | ((with_reducible apply EV.o_prm); (with_reducible apply EV.get_of); exact rfl))
  | ((with_reducible apply EV.gdV); first
      | with_reducible exact EV.e_C
      | ((with_reducible apply EV.e_var); (with_reducible apply EV.get_of); exact rfl)
      | ((with_reducible apply EV.e_varO); ((with_reducible apply EV.get_of); exact rfl))
      | with_reducible apply EV.e_bin
      | ((with_reducible apply EV.e_call); (focus (and_intros; done)); (focus (and_intros; done)); ((with_reducible apply EV.any_of); exact rfl))
      | ((with_reducible apply EV.e_callD); (focus (and_intros; done)); (focus (and_intros; done)); (focus (and_intros; done)); first | with_reducible exact EV.noT | with_reducible exact EV.noI | with_reducible exact EV.noB | with_reducible exact EV.noN | with_reducible assumption | exact EV.noT)
      | with_reducible apply EV.e_bi
      | (with_reducible apply EV.e_sl)
      | with_reducible apply EV.e_tup
      | with_reducible apply EV.e_un
      | ((with_reducible apply EV.e_callRo); ((with_reducible apply EV.ow_o); (with_reducible apply EV.get_of); exact rfl))
      | ((with_reducible apply EV.e_callRp); ((with_reducible apply EV.ow_p); (with_reducible apply EV.get_of); exact rfl))
      | with_reducible apply EV.e_lc
      | ((with_reducible apply EV.andV_t); (focus infer_instance))
      | ((with_reducible apply EV.andV_f); (focus infer_instance))
      | ((with_reducible apply EV.orV_f); (focus infer_instance))
      | ((with_reducible apply EV.orV_t); (focus infer_instance))
      | ((with_reducible apply EV.iteV_t); (focus infer_instance))
      | ((with_reducible apply EV.iteV_f); (focus infer_instance))
      | ((with_reducible apply EV.chK_t); (focus infer_instance))
      | ((with_reducible apply EV.chK_f); (focus infer_instance))
      | ((with_reducible apply EV.e_fld); (focus (and_intros; done)); (focus exact rfl); (focus exact rfl))
      | ((with_reducible apply EV.e_flen); (focus (and_intros; done)))
      | ((with_reducible apply EV.e_ftup); (focus (and_intros; done)))
      | ((with_reducible apply EV.e_fix); (focus (and_intros; done)); (focus ((with_reducible apply EV.get_of); exact rfl)))
      | ((with_reducible apply EV.e_meth); (focus (and_intros; done)); (focus (and_intros; done)); (focus (and_intros; done)); (focus (and_intros; done)))
      | ((with_reducible apply EV.e_callNF); (focus (and_intros; done)); (focus (and_intros; done)); (focus ((with_reducible apply EV.prop_of); with_reducible assumption)); (focus exact rfl); (focus exact rfl))
      | ((with_reducible apply EV.e_callNM); (focus (and_intros; done)); (focus (and_intros; done)))
      | with_reducible apply EV.e_lc2
      | with_reducible apply EV.e_lst
      | with_reducible apply EV.e_not
      | with_reducible apply EV.e_and
      | with_reducible apply EV.e_or
      | with_reducible apply EV.e_ite
      | (with_reducible apply EV.e_chain)
      | with_reducible exact EV.e_dnew
      | with_reducible exact EV.e_disp
      | ((with_reducible apply EV.e_dixV); (focus (and_intros; done)); (focus (and_intros; done)); (focus (and_intros; done)); (focus (first | with_reducible assumption | exact rfl)))
      | ((with_reducible apply EV.e_din); (focus (and_intros; done)); (focus (and_intros; done)); (focus (first | with_reducible assumption | exact rfl)))
      | ((with_reducible apply EV.e_dnin); (focus (and_intros; done)); (focus (and_intros; done)); (focus (first | with_reducible assumption | exact rfl)))
      | ((with_reducible apply EV.e_dget); (focus (and_intros; done)); (focus (and_intros; done)); (focus (and_intros; done)); (focus (and_intros; done)); (focus (first | with_reducible assumption | exact rfl))))
  | ((with_reducible apply EV.gdG); first
      | ((with_reducible apply EV.get_of); exact rfl))
  | ((with_reducible apply EV.gdD); first
      | with_reducible exact EV.rd_v
      | with_reducible apply EV.rd_o
      | with_reducible apply EV.rd_p)
  | ((with_reducible apply EV.gdA); first
      | with_reducible exact EV.a_n
      | ((with_reducible apply EV.a_app); (focus (and_intros; done)))
      | with_reducible apply EV.a_c)
  | ((with_reducible apply EV.gdR); first
      | ((with_reducible apply EV.gdRb); first
      | ((with_reducible apply EV.gh_bIx); first | ((with_reducible apply EV.p_ixNegM) <;> first | assumption | omega) | ((with_reducible apply EV.p_ix0); first | assumption | omega) | with_reducible exact EV.p_ix20 | with_reducible exact EV.p_ix21 | with_reducible exact EV.p_ix30 | with_reducible exact EV.p_ix31 | with_reducible exact EV.p_ix32 | ((with_reducible apply EV.p_ixLastT); assumption) | ((with_reducible apply EV.p_ixNegT); first | assumption | omega) | ((with_reducible apply EV.p_ixNegL); first | assumption | omega) | ((with_reducible apply EV.p_ixT); first | assumption | omega) | ((with_reducible apply EV.p_ixL); first | assumption | omega) | ((with_reducible apply EV.p_ixT') <;> first | assumption | omega) | ((with_reducible apply EV.p_ixL') <;> first | assumption | omega) | ((with_reducible apply IPL.p_ixTT); first | assumption | omega) | ((with_reducible apply IPL.p_ixLT); first | assumption | omega) | ((with_reducible apply EV.p_ixDT); first | assumption | omega) | ((with_reducible apply EV.p_ixDL); first | assumption | omega))
      | ((with_reducible apply EV.gh_bAdd); first | with_reducible exact EV.p_add | ((with_reducible apply EV.p_addT); (with_reducible apply EV.line_of); first | assumption | omega) | ((with_reducible apply EV.p_addL); (with_reducible apply EV.line_of); first | assumption | omega) | ((with_reducible apply EV.p_addsL); first | assumption | omega) | ((with_reducible apply EV.p_addTs); (with_reducible apply EV.line_of); first | assumption | omega) | ((with_reducible apply EV.p_addsT); (with_reducible apply EV.line_of); first | assumption | omega))
      | with_reducible exact EV.p_sub
      | ((with_reducible apply EV.p_mod); first | assumption | omega)
      | ((with_reducible apply EV.gh_bMul); first | ((with_reducible apply EV.p_repL) <;> omega) | ((with_reducible apply EV.p_repT) <;> omega) | ((with_reducible apply EV.p_mulL); first | assumption | omega) | ((with_reducible apply EV.p_mulR); first | assumption | omega) | ((with_reducible apply EV.p_mulB); first | assumption | omega))
      | ((with_reducible apply EV.p_fdiv) <;> first | assumption | omega)
      | ((with_reducible apply EV.p_fdivB) <;> first | assumption | omega)
      | ((with_reducible apply EV.gh_bPow); first | with_reducible exact EV.p_pow12 | with_reducible exact EV.p_pow17 | with_reducible exact EV.p_pow60 | with_reducible exact EV.p_pow15 | with_reducible exact EV.p_pow18)
      | with_reducible exact EV.p_lt
      | with_reducible exact EV.p_le
      | with_reducible exact EV.p_gt
      | with_reducible exact EV.p_ge
      | ((with_reducible apply EV.gh_bEq); first | with_reducible exact EV.p_eq | with_reducible exact IPL.p_eqT | with_reducible exact IPL.p_eqT1 | with_reducible exact IPL.p_eqL | with_reducible exact IPL.p_eqL0 | with_reducible exact IPL.p_eqT0 | with_reducible exact IPL.p_eqL1 | with_reducible exact IPL.p_eqTT | with_reducible exact IPL.p_eqLT | with_reducible exact EV.p_eqB)
      | ((with_reducible apply EV.gh_bNe); first | with_reducible exact EV.p_ne | with_reducible exact IPL.p_neT | with_reducible exact IPL.p_neT1 | with_reducible exact IPL.p_neL | with_reducible exact IPL.p_neT0 | with_reducible exact IPL.p_neL1 | with_reducible exact IPL.p_neTT | with_reducible exact IPL.p_neLT | with_reducible exact IPL.p_neL0 | with_reducible exact EV.p_neB)
      | ((with_reducible apply EV.p_xor) <;> first | assumption | omega)
      | with_reducible exact EV.p_shrN
      | with_reducible exact EV.p_and1
      | ((with_reducible apply EV.p_and) <;> first | assumption | omega))
      | ((with_reducible apply EV.gdRi); first
      | ((with_reducible apply EV.gh_biLen); first | with_reducible exact EV.b_len2 | with_reducible exact EV.b_len3 | with_reducible exact EV.b_lenT | with_reducible exact EV.b_lenL | with_reducible exact EV.b_lenT' | with_reducible exact EV.b_lenL')
      | with_reducible exact EV.b_int
      | with_reducible exact EV.b_intB
      | with_reducible exact EV.b_tupL
      | with_reducible exact EV.b_tupT
      | with_reducible exact EV.b_lstL
      | with_reducible exact EV.b_lstT
      | with_reducible exact EV.b_sum
      | with_reducible exact EV.b_sum2L
      | with_reducible exact EV.b_sum2T
      | with_reducible exact EV.b_any2L
      | with_reducible exact EV.b_abs
      | with_reducible exact EV.b_max
      | with_reducible exact EV.b_min
      | with_reducible exact EV.b_gcd)
      | ((with_reducible apply EV.gdRu); first
      | ((with_reducible apply EV.gh_uIs); first | with_reducible exact EV.is_ii | with_reducible exact EV.is_bi | with_reducible exact EV.is_tt | with_reducible exact EV.is_tl | with_reducible exact EV.is_lt | with_reducible exact EV.is_ll)
      | ((with_reducible apply EV.gh_uIsN); first | with_reducible exact EV.uisn | with_reducible exact EV.uisn_i | with_reducible exact EV.uisn_t)
      | ((with_reducible apply EV.gh_uNotN); first | with_reducible exact EV.unn | with_reducible exact EV.unn_i | with_reducible exact EV.unn_t)
      | with_reducible exact EV.p_bitsN
      | with_reducible exact EV.p_neg
      | with_reducible exact EV.p_revT
      | with_reducible exact EV.p_revL
      | with_reducible exact EV.p_tupRev)
      | ((with_reducible apply EV.gh_cutR); first | with_reducible exact EV.cut_to1 | with_reducible exact EV.cut_to1L | with_reducible exact EV.cut_fr1 | with_reducible exact EV.cut_fr1L | with_reducible exact EV.cut_toT | with_reducible exact EV.cut_toL | with_reducible exact EV.cut_frT | with_reducible exact EV.cut_frL | with_reducible exact EV.cut_lastT | with_reducible exact EV.cut_last1 | with_reducible exact EV.cut_last1L | ((with_reducible apply EV.cut_toI); first | assumption | omega) | ((with_reducible apply EV.cut_frI); first | assumption | omega) | with_reducible exact EV.cut_lastL)
      | ((with_reducible apply EV.gh_outR); first | with_reducible exact EV.or_n | with_reducible exact EV.or_r | ((with_reducible apply EV.or_of); exact rfl) | ((with_reducible apply EV.or_bt); focus infer_instance)))
  | ((with_reducible apply EV.gdS); first
      | with_reducible apply EV.s_seq
      | ((with_reducible apply EV.gh_seqK); first | with_reducible exact EV.q_rt | with_reducible apply EV.q_nx | with_reducible exact EV.q_bk | with_reducible exact EV.q_ct | with_reducible exact EV.q_ro)
      | with_reducible apply EV.s_set
      | with_reducible apply EV.s_if
      | ((with_reducible apply EV.if_t); (focus infer_instance))
      | ((with_reducible apply EV.if_f); (focus infer_instance))
      | with_reducible exact EV.s_pass
      | with_reducible apply EV.s_ret
      | with_reducible apply EV.s_ex
      | ((with_reducible apply EV.s_appI); ((with_reducible apply EV.ow_o); (with_reducible apply EV.get_of); exact rfl); (focus (and_intros; done)); ((with_reducible apply EV.get_of); exact rfl))
      | ((with_reducible apply EV.s_appO); ((with_reducible apply EV.ow_o); (with_reducible apply EV.get_of); exact rfl))
      | ((with_reducible apply EV.s_fld); (focus (and_intros; done)); (focus (and_intros; done)); (focus exact rfl); (focus (and_intros; done)); (focus exact rfl); (focus exact rfl))
      | ((with_reducible apply EV.s_faug); (focus (and_intros; done)); (focus exact rfl); (focus exact rfl); (focus (and_intros; done)); (focus (and_intros; done)); (focus exact rfl); (focus exact rfl))
      | ((with_reducible apply EV.s_fapp); (focus (and_intros; done)); (focus ((with_reducible apply EV.get_of); exact rfl)); (focus (first | assumption | omega)))
      | ((with_reducible apply EV.s_callN); (focus (and_intros; done)); (focus (and_intros; done)))
      | ((with_reducible apply EV.s_retG); ((with_reducible apply EV.get_of); exact rfl))
      | with_reducible exact EV.s_brk
      | with_reducible exact EV.s_cnt
      | with_reducible exact EV.s_retN
      | with_reducible apply EV.s_unp
      | with_reducible apply EV.s_par
      | ((with_reducible apply EV.s_augI); ((with_reducible apply EV.get_of); exact rfl))
      | ((with_reducible apply EV.s_setIxN); (focus (and_intros; done)); (focus ((with_reducible apply EV.ow_o); (with_reducible apply EV.get_of); exact rfl)); (focus (and_intros; done)); (focus ((with_reducible apply EV.get_of); exact rfl)); (focus (first | assumption | omega)))
      | ((with_reducible apply EV.s_setIxI); (focus (and_intros; done)); (focus ((with_reducible apply EV.ow_o); (with_reducible apply EV.get_of); exact rfl)); (focus (and_intros; done)); (focus ((with_reducible apply EV.get_of); exact rfl)); (focus (first | assumption | omega)))
      | ((with_reducible apply EV.s_augIxN); (focus ((with_reducible apply EV.ow_o); (with_reducible apply EV.get_of); exact rfl)); (focus (and_intros; done)); (focus ((with_reducible apply EV.get_of); exact rfl)); (focus (and_intros; done)); (focus ((with_reducible apply EV.get_of); exact rfl)); (focus (first | assumption | omega)))
      | ((with_reducible apply EV.s_pop); (focus ((with_reducible apply EV.get_of); exact rfl)); (focus assumption))
      | ((with_reducible apply EV.s_setIx); (focus (and_intros; done)); ((with_reducible apply EV.ow_o); (with_reducible apply EV.get_of); exact rfl); (focus (and_intros; done)); ((with_reducible apply EV.get_of); exact rfl))
      | with_reducible apply EV.s_for
      | with_reducible apply EV.s_while
      | ((with_reducible apply EV.s_dset); (focus (and_intros; done)); (focus (and_intros; done)); (focus (and_intros; done)); (focus (and_intros; done)); (focus (and_intros; done)); (focus (first | with_reducible assumption | exact rfl))))
  | ((with_reducible apply EV.gdL); first
      | ((with_reducible apply EV.gP); ((with_reducible apply EV.get_of); exact rfl))
      | ((with_reducible apply EV.gO); ((with_reducible apply EV.get_of); exact rfl))
      | with_reducible exact EV.ra_n
      | with_reducible apply EV.ra_c
      | with_reducible exact EV.vs_n
      | with_reducible apply EV.vs_c)
  | ((with_reducible apply EV.gdE); first
      | ((with_reducible apply EV.gh_setSlot); first | with_reducible exact EV.st_0u | with_reducible exact EV.st_0d | with_reducible exact EV.st_0o | ((with_reducible apply EV.st_0f); first | assumption | exact EV.fr_d | exact EV.fr_u) | ((with_reducible apply EV.st_0g); assumption) | with_reducible apply EV.st_s | with_reducible exact EV.st_0k)
      | with_reducible exact EV.u_n
      | ((with_reducible apply EV.u_u); ((with_reducible apply EV.get_of); exact rfl))
      | ((with_reducible apply EV.u_d); ((with_reducible apply EV.get_of); exact rfl))
      | with_reducible apply EV.t_nm
      | with_reducible apply EV.t_tup
      | with_reducible exact EV.sd_n
      | with_reducible apply EV.sd_c
      | with_reducible exact EV.sr_n
      | with_reducible apply EV.sr_c)
  | ((with_reducible apply EV.gdT); first
      | with_reducible apply EV.t_B
      | with_reducible apply EV.t_V
      | with_reducible apply EV.t_not
      | with_reducible apply EV.t_and
      | with_reducible apply EV.t_or
      | ((with_reducible apply EV.orT_f); (focus infer_instance))
      | ((with_reducible apply EV.orT_t); (focus infer_instance))
      | ((with_reducible apply EV.andT_t); (focus infer_instance))
      | ((with_reducible apply EV.andT_f); (focus infer_instance)))
  | ((with_reducible apply EV.gdLs); first
      | with_reducible exact EV.ls_0
      | with_reducible apply EV.ls_s)
  | ((with_reducible apply EV.gdSl); first
      | with_reducible exact EV.so_d
      | with_reducible exact EV.so_n
      | with_reducible exact EV.so_nd)
  | ((with_reducible apply EV.gdBo); first
      | with_reducible exact EV.stl_n
      | ((with_reducible apply EV.stl_o); (with_reducible apply EV.get_of); exact rfl)
      | ((with_reducible apply EV.bo_nf); focus infer_instance)
      | ((with_reducible apply EV.bo_nt); focus infer_instance))
  | ((with_reducible apply EV.gdEn); first
      | ((with_reducible apply EV.pP); (focus ((with_reducible apply EV.get_of); exact rfl)))
      | ((with_reducible apply EV.pO); (focus ((with_reducible apply EV.get_of); exact rfl)))
      | with_reducible exact EV.ba_n
      | ((with_reducible apply EV.ba_c); ((with_reducible apply EV.get_of); exact rfl)))
  | ((with_reducible apply EV.gdDd); first
      | with_reducible exact EV.td_d
      | with_reducible exact EV.td_n
      | with_reducible exact EV.td_nd)
  | ((with_reducible apply EV.gdI); first
      | ((with_reducible apply EV.i_r1); (focus (and_intros; done)); omega)
      | ((with_reducible apply EV.i_r1'); (focus (and_intros; done)); omega; omega)
      | ((with_reducible apply EV.i_r2); (focus (and_intros; done)); (focus (and_intros; done)); omega; omega; omega; omega)
      | ((with_reducible apply EV.i_rT); (focus (and_intros; done)))
      | ((with_reducible apply EV.i_rL); (focus (and_intros; done)))
      | ((with_reducible apply EV.i_zT); (focus (and_intros; done)); (focus (and_intros; done)))
      | ((with_reducible apply EV.i_zL); (focus (and_intros; done)); (focus (and_intros; done)))
      | ((with_reducible apply EV.i_enT); (focus (and_intros; done)))
      | ((with_reducible apply EV.i_enL); (focus (and_intros; done)))
      | ((with_reducible apply EV.i_rr1); (focus (and_intros; done)); omega)
      | ((with_reducible apply EV.i_ET); (focus (and_intros; done)))
      | ((with_reducible apply EV.i_E); (focus (and_intros; done)))
      | ((with_reducible apply EV.i_EO); (focus (and_intros; done)); (focus (and_intros; done))))
  | ((with_reducible apply EV.gdTr); first
      | ((with_reducible apply EV.gh_truth); first | with_reducible exact EV.tr_b | with_reducible exact EV.tr_T | with_reducible exact EV.tr_L | with_reducible exact EV.tr_i | with_reducible exact EV.tr_n))
  | ((with_reducible apply EV.gdLc); first
      | ((with_reducible apply EV.l_intR); (intro _ _; with_reducible apply EV.lt_y))
      | ((with_reducible apply EV.l_int); (intro _ _; with_reducible apply EV.lt_y)))
  | ((with_reducible apply EV.gdP); first
      | with_reducible exact EV.pe_n
      | with_reducible apply EV.pe_c)
  | ((with_reducible apply EV.gdPo); first
      | with_reducible exact EV.pn
      | with_reducible apply EV.ps)
  | ((with_reducible apply EV.line_of); first | assumption | (simp only [List.length_map, List.length_range, List.length_append, List.length_cons, List.length_nil, List.length_reverse, List.length_zip, List.length_take, List.length_drop, List.length_dropLast]; omega))
  | ((with_reducible apply EV.line_lt); first | assumption | (simp only [List.length_map, List.length_range, List.length_append, List.length_cons, List.length_nil, List.length_reverse, List.length_zip, List.length_take, List.length_drop, List.length_dropLast]; omega))
  | ((with_reducible apply EV.dctI_of); ((with_reducible apply EV.get_of); exact rfl))))
abbrev E70 (ns : List Int) (x : List D) (p : Int) (s3 s4 s5 : Slot) (due : D) (s7 s8 s9 s10 s11 s12 s13 s14 : Slot) : Env := [.dat (scr ns), .own x, .dat (.int p), s3, s4, s5, .dat due, s7, s8, s9, s10, s11, s12, s13, s14, .un]
/-- how many figures are enough -/
def cntK (p S : Int) : Nat → Nat
  | 0 => 0
  | k + 1 => if p ^ cntK p S k ≤ 2 * S * S then cntK p S k + 1 else cntK p S k
theorem two_pows {p : Int} (hp : isPrime p) : ∀ n : Nat, (2 : Int) ^ n ≤ p ^ n
  | 0 => by simp
  | n + 1 => by
    have ih := two_pows hp n
    have pp := prime_pos hp
    have := pow_pos' hp n
    rw [Int.pow_succ, Int.pow_succ]
    have h1 := Int.mul_le_mul_of_nonneg_left (show (2 : Int) ≤ p by omega) (show 0 ≤ p ^ n by omega)
    omega
theorem two_lt {a b : Nat} (h : (2 : Int) ^ a < 2 ^ b) : a < b := by
  rcases Nat.lt_or_ge a b with h1 | h1
  · exact h1
  · exfalso
    have := Nat.pow_le_pow_right (show 0 < 2 by decide) h1
    have e : ∀ k : Nat, (2 : Int) ^ k = ((2 ^ k : Nat) : Int) := fun k => (Int.natCast_pow 2 k).symm
    rw [e, e] at h
    omega
theorem pows8 {a b : Nat} (h : a ≤ b) : (8 : Int) ^ a ≤ 8 ^ b := by
  have := Nat.pow_le_pow_right (show 0 < 8 by decide) h
  have e : ∀ k : Nat, (8 : Int) ^ k = ((8 ^ k : Nat) : Int) := fun k => (Int.natCast_pow 8 k).symm
  rw [e, e]
  exact Int.ofNat_le.mpr this
theorem cntK_ok {p : Int} (hp : isPrime p) {S : Int} (hS : 2 * S * S < 2 ^ 300) : ∀ k, cntK p S k ≤ 300 ∧ (cntK p S k = k ∨ 2 * S * S < p ^ cntK p S k)
  | 0 => ⟨Nat.zero_le _, .inl rfl⟩
  | k + 1 => by
    obtain ⟨h1, h2⟩ := cntK_ok hp hS k
    have pp := prime_pos hp
    unfold cntK
    split
    · rename_i c
      refine ⟨?_, .inl ?_⟩
      · have h3 := two_pows hp (cntK p S k)
        have h4 : (2 : Int) ^ cntK p S k < 2 ^ 300 := by omega
        have := two_lt h4
        omega
      · rcases h2 with h2 | h2
        · rw [h2]
        · omega
    · rename_i c
      exact ⟨h1, .inr (by omega)⟩
theorem cnt_turn (n : Nat) (ns : List Int) (x : List D) {p : Int} (hp : isPrime p) (s3 s4 s5 : Slot) {y : Int × Int} (hy : ub 150 y.1 ∧ ub 150 y.2) (py : 1 ≤ y.2) {a : Nat} (ha : a ≤ 400) (k : Int) : W_law_1 (run n) (E70 ns x p s3 s4 s5 (pD y) (.dat (.int (a : Int))) (.dat (.int (p ^ a))) (.dat (.int k)) .un .un .un .un .un) = some (.nx, E70 ns x p s3 s4 s5 (pD y) (.dat (.int ((if p ^ a ≤ 2 * sz y * sz y then a + 1 else a : Nat) : Int))) (.dat (.int (p ^ (if p ^ a ≤ 2 * sz y * sz y then a + 1 else a)))) (.dat (.int k)) .un .un .un .un .un) := by
  have pp := prime_pos hp
  have i0 : bIx (pD y) (.int 0) = some (.dat (.int y.1)) := rfl
  have i1 : bIx (pD y) (.int 1) = some (.dat (.int y.2)) := rfl
  have a0 : biAbs [.int y.1] = some (.dat (.int (y.1.natAbs : Int))) := by rw [biAbs, abs_nat]
  have mx : biMax [.int (y.1.natAbs : Int), .int y.2] = some (.dat (.int (sz y))) := by
    rw [EV.b_max]
    have : (if y.2 > (y.1.natAbs : Int) then y.2 else (y.1.natAbs : Int)) = sz y := by
      unfold sz
      split <;> omega
    rw [this]
  have us : ub 150 (sz y) := by
    unfold ub at hy ⊢
    unfold sz
    omega
  have m1 : bMul (.int 2) (.int (sz y)) = some (.dat (.int (2 * sz y))) := EV.p_mulL (by omega)
  have u2 : ub 152 (2 * sz y) := by
    unfold ub at us ⊢
    rw [Int.natAbs_mul]
    show 2 * (sz y).natAbs < _
    omega
  have m2 : bMul (.int (2 * sz y)) (.int (sz y)) = some (.dat (.int (2 * sz y * sz y))) := EV.p_mulB (by
    have := u2.log (by omega)
    have := us.log (by omega)
    omega)
  have m3 : bMul (.int (p ^ a)) (.int p) = some (.dat (.int (p ^ (a + 1)))) := by
    rw [Int.pow_succ]
    exact EV.p_mulR (by omega)
  clear us u2 hy
  by_cases c : p ^ a ≤ 2 * sz y * sz y
  · rw [if_pos c, show ((a + 1 : Nat) : Int) = (a : Int) + 1 from rfl]
    have q0 : decide (p ^ a ≤ 2 * sz y * sz y) = true := decide_eq_true c
    generalize 2 * sz y * sz y = Q at *
    generalize 2 * sz y = Q2 at *
    generalize p ^ (a + 1) = P1 at *
    generalize p ^ a = P0 at *
    generalize sz y = S at *
    generalize pD y = Y at *
    generalize y.1.natAbs = a1 at *
    and_intros
  · rw [if_neg c]
    have q0 : decide (p ^ a ≤ 2 * sz y * sz y) = false := decide_eq_false c
    generalize 2 * sz y * sz y = Q at *
    generalize 2 * sz y = Q2 at *
    generalize p ^ a = P0 at *
    generalize sz y = S at *
    generalize pD y = Y at *
    generalize y.1.natAbs = a1 at *
    and_intros
theorem cnt_loop (n : Nat) (ns : List Int) (x : List D) {p : Int} (hp : isPrime p) (s3 s4 s5 : Slot) {y : Int × Int} (hy : ub 150 y.1 ∧ ub 150 y.2) (py : 1 ≤ y.2) (hS : 2 * sz y * sz y < 2 ^ 300) : ∃ d9 : D, forGo (.nm 9) (W_law_1 (run n)) ((List.range (Int.toNat 400)).map EV.encN) (E70 ns x p s3 s4 s5 (pD y) (.dat (.int 0)) (.dat (.int 1)) .un .un .un .un .un .un) = some (.nx, E70 ns x p s3 s4 s5 (pD y) (.dat (.int (cntK p (sz y) 400 : Nat))) (.dat (.int (p ^ cntK p (sz y) 400))) (.dat d9) .un .un .un .un .un) := by
  obtain ⟨δ', e, s9, h9, hd, rfl⟩ := EV.f_range (g := .nm 9) (bb := W_law_1 (run n)) (enc := EV.encN) (fun k δ => ∃ s9 : Slot, EV.Free s9 ∧ (0 < k → ∃ d, s9 = .dat d) ∧ δ = E70 ns x p s3 s4 s5 (pD y) (.dat (.int (cntK p (sz y) k : Nat))) (.dat (.int (p ^ cntK p (sz y) k))) s9 .un .un .un .un .un) 400 (E70 ns x p s3 s4 s5 (pD y) (.dat (.int 0)) (.dat (.int 1)) .un .un .un .un .un .un) ⟨.un, EV.fr_u, fun z => absurd z (Nat.lt_irrefl 0), by
    show _ = E70 ns x p s3 s4 s5 (pD y) (.dat (.int ((0 : Nat) : Int))) (.dat (.int (p ^ 0))) .un .un .un .un .un .un
    rw [Int.pow_zero]
    rfl⟩ (by
    rintro k δ hk ⟨s9, h9, _, rfl⟩
    have hc := (cntK_ok hp hS k).1
    have e := cnt_turn n ns x hp s3 s4 s5 hy py (a := cntK p (sz y) k) (by omega) (k : Int)
    have ec : (if p ^ cntK p (sz y) k ≤ 2 * sz y * sz y then cntK p (sz y) k + 1 else cntK p (sz y) k) = cntK p (sz y) (k + 1) := rfl
    rw [ec] at e
    refine EV.st_nx ?_ e ⟨_, EV.fr_d, fun _ => ⟨_, rfl⟩, rfl⟩
    rcases h9 with rfl | ⟨d, rfl⟩ <;> rfl)
  obtain ⟨d9, rfl⟩ := hd (by omega)
  exact ⟨d9, e⟩
/-! ### rows that grow -/
theorem grow_turn (n : Nat) (ns : List Int) (x : List D) {p : Int} (hp : isPrime p) (s3 s4 s5 : Slot) (d6 : D) (s8 s9 s10 : Slot) {L : List Int} (hn : nums p L) (hl : L.length = 40) {k : Nat} (hk : k ≤ 40) {B : Int} (hB : ∀ z, LeastF p (L.take k) z → B ≤ sz z) (s13 s14 : Slot) (h13 : EV.Free s13) (h14 : EV.Free s14) : ∃ (z : Int × Int) (d13 d14 : D), LeastF p (L.take k) z ∧ W_law_3 (run (n + 11)) (E70 ns x p s3 s4 s5 d6 (.dat (.int (k : Int))) s8 s9 s10 (.dat (iT L)) (.dat (.int B)) s13 s14) = some (.nx, E70 ns x p s3 s4 s5 d6 (.dat (.int (k : Int))) s8 s9 s10 (.dat (iT L)) (.dat (.int (sz z))) (.dat d13) (.dat d14)) := by
  have pp := prime_pos hp
  have hnk : nums p (L.take k) := fun y hy => hn y (List.mem_of_mem_take hy)
  have lk : (L.take k).length = k := by rw [List.length_take]; omega
  obtain ⟨z, e1, Z⟩ := I__least_of (n + 6) hp hnk (by omega)
  have hBz := hB z Z
  have e2 := I_carry_span (n + 9) e1 Z.pos
  have e3 := I_least_fraction (n + 9) e1
  have bd := Z.bound hp hnk
  rw [lk] at bd
  have p40 : p ^ k ≤ 8 ^ 40 := by
    have h1 := pow_le' hp k
    have h2 : (8 : Int) ^ k ≤ 8 ^ 40 := pows8 hk
    omega
  have szl := sz_le (z := z)
  have zp := Z.pos
  have zl := Z.low
  obtain ⟨m, hm⟩ := inv_ex hp zl
  have b40 : (8 : Int) ^ 40 = 1329227995784915872903807060280344576 := by decide
  have e10 := I_fraction_row (n + 6) (p := p) (a := z.1) (l := z.2) hp (by unfold M60; omega) (by unfold M60; omega) zp (by unfold M60; omega) zl hm (k := k) (by omega)
  have er := Z.row hp hnk hm
  rw [lk] at er
  rw [er] at e10
  have e10 : run (n + 6 + 5) "fraction_row" none [.int p, pD z, .int (k : Int)] = some (.dat (iT (L.take k)), none) := e10
  have i0 : bIx (pD z) (.int 0) = some (.dat (.int z.1)) := rfl
  have i1 : bIx (pD z) (.int 1) = some (.dat (.int z.2)) := rfl
  have a0 : biAbs [.int z.1] = some (.dat (.int (z.1.natAbs : Int))) := by rw [biAbs, abs_nat]
  have mx : biMax [.int (z.1.natAbs : Int), .int z.2] = some (.dat (.int (sz z))) := by
    rw [EV.b_max]
    have : (if z.2 > (z.1.natAbs : Int) then z.2 else (z.1.natAbs : Int)) = sz z := by
      unfold sz
      split <;> omega
    rw [this]
  have q0 : decide (sz z < B) = false := decide_eq_false (by omega)
  have q1 : (!decide (sz z = sz z)) = false := by simp
  have q2 : (!decide (L.take k = L.take k)) = false := by simp
  have ct : EV.cutR (iT L) none (some (k : Int)) = some (.dat (iT (L.take k))) := EV.cut_toT
  refine ⟨z, .int (sz z), pD z, Z, ?_⟩
  clear Z hB hBz bd p40 b40 szl er hm lk hnk hn hl e1
  generalize sz z = S at *
  generalize L.take k = Lk at *
  generalize pD z = X at *
  generalize z.1.natAbs = a1 at *
  rcases h13 with rfl | ⟨d, rfl⟩ <;> rcases h14 with rfl | ⟨d', rfl⟩ <;> and_intros
theorem grow_loop (n : Nat) (ns : List Int) (x : List D) {p : Int} (hp : isPrime p) (s3 s4 s5 : Slot) (d6 : D) (d7 : D) (s8 s9 s10 : Slot) {L : List Int} (hn : nums p L) (hl : L.length = 40) : ∃ δ' : Env, forGo (.nm 7) (W_law_3 (run (n + 11))) (upD5 0 ((41 - 0 + 4 : Int) / 5).toNat) (E70 ns x p s3 s4 s5 d6 (.dat d7) s8 s9 s10 (.dat (iT L)) (.dat (.int 1)) .un .un) = some (.nx, δ') := by
  obtain ⟨δ', e, _⟩ := EV.f_range (g := .nm 7) (bb := W_law_3 (run (n + 11))) (enc := fun k : Nat => PyData.int (0 + 5 * (k : Nat))) (fun k δ => ∃ (d7 : D) (B : Int) (s13 s14 : Slot), EV.Free s13 ∧ EV.Free s14 ∧ (∀ j z, 5 * k ≤ j → j ≤ 40 → LeastF p (L.take j) z → B ≤ sz z) ∧ δ = E70 ns x p s3 s4 s5 d6 (.dat d7) s8 s9 s10 (.dat (iT L)) (.dat (.int B)) s13 s14) 9 (E70 ns x p s3 s4 s5 d6 (.dat d7) s8 s9 s10 (.dat (iT L)) (.dat (.int 1)) .un .un) ⟨d7, 1, .un, .un, EV.fr_u, EV.fr_u, fun j z _ _ hz => least_one hz, rfl⟩ (by
    rintro k δ hk ⟨d7, B, s13, s14, h13, h14, hB, rfl⟩
    obtain ⟨z, d13, d14, Z, e⟩ := grow_turn n ns x hp s3 s4 s5 d6 s8 s9 s10 hn hl (k := 5 * k) (by omega) (fun z hz => hB _ z (Nat.le_refl _) (by omega) hz) s13 s14 h13 h14
    have e5 : (0 + 5 * (k : Int)) = ((5 * k : Nat) : Int) := by omega
    refine EV.st_nx (δ1 := E70 ns x p s3 s4 s5 d6 (.dat (.int ((5 * k : Nat) : Int))) s8 s9 s10 (.dat (iT L)) (.dat (.int B)) s13 s14) ?_ e ⟨_, sz z, _, _, EV.fr_d, EV.fr_d, fun j z' hj hj2 hz' => least_mono (by omega) (by omega) Z hz', rfl⟩
    rw [← e5]
    rfl)
  exact ⟨δ', e⟩
end IPL
end
section
set_option linter.all false
set_option maxRecDepth 100000
set_option maxHeartbeats 2000000
namespace IPL
open IP
open PySem (PyData)
local macro_rules | `(tactic| infer_instance) => `(tactic| ((repeat' (first | with_reducible exact rfl | with_reducible assumption | with_reducible apply EV.bo_nt | with_reducible apply EV.bo_nf | with_reducible refine decide_eq_true ?_ | with_reducible refine decide_eq_false ?_ | with_reducible apply EV.bne_t | with_reducible apply EV.bne_f | omega)); done))
local macro_rules | `(tactic| and_intros) => `(tactic| repeat' (first
  | with_reducible assumption
  | ((with_reducible apply EV.gdO); first
      | with_reducible apply EV.o_V
      | ((with_reducible apply EV.o_var); (with_reducible apply EV.get_of); exact rfl)
      | ((with_reducible apply EV.o_own); (with_reducible apply EV.get_of); exact rfl)
      | ((with_reducible apply EV.o_prm); (with_reducible apply EV.get_of); exact rfl))
  | ((with_reducible apply EV.gdV); first
      | with_reducible exact EV.e_C
      | ((with_reducible apply EV.e_var); (with_reducible apply EV.get_of); exact rfl)
      | ((with_reducible apply EV.e_varO); ((with_reducible apply EV.get_of); exact rfl))
      | with_reducible apply EV.e_bin
      | ((with_reducible apply EV.e_call); (focus (and_intros; done)); (focus (and_intros; done)); ((with_reducible apply EV.any_of); exact rfl))
      | ((with_reducible apply EV.e_callD); (focus (and_intros; done)); (focus (and_intros; done)); (focus (and_intros; done)); first | with_reducible exact EV.noT | with_reducible exact EV.noI | with_reducible exact EV.noB | with_reducible exact EV.noN | with_reducible assumption | exact EV.noT)
      | with_reducible apply EV.e_bi
      | (with_reducible apply EV.e_sl)
      | with_reducible apply EV.e_tup
      | with_reducible apply EV.e_un
      | ((with_reducible apply EV.e_callRo); ((with_reducible apply EV.ow_o); (with_reducible apply EV.get_of); exact rfl))
      | ((with_reducible apply EV.e_callRp); ((with_reducible apply EV.ow_p); (with_reducible apply EV.get_of); exact rfl))
      | with_reducible apply EV.e_lc
      | ((with_reducible apply EV.andV_t); (focus infer_instance))
      | ((with_reducible apply EV.andV_f); (focus infer_instance))
      | ((with_reducible apply EV.orV_f); (focus infer_instance))
      | ((with_reducible apply EV.orV_t); (focus infer_instance))
      | ((with_reducible apply EV.iteV_t); (focus infer_instance))
      | ((with_reducible apply EV.iteV_f); (focus infer_instance))
      | ((with_reducible apply EV.chK_t); (focus infer_instance))
      | ((with_reducible apply EV.chK_f); (focus infer_instance))
      | ((with_reducible apply EV.e_fld); (focus (and_intros; done)); (focus exact rfl); (focus exact rfl))
      | ((with_reducible apply EV.e_flen); (focus (and_intros; done)))
      | ((with_reducible apply EV.e_ftup); (focus (and_intros; done)))
      | ((with_reducible apply EV.e_fix); (focus (and_intros; done)); (focus ((with_reducible apply EV.get_of); exact rfl)))
      | ((with_reducible apply EV.e_meth); (focus (and_intros; done)); (focus (and_intros; done)); (focus (and_intros; done)); (focus (and_intros; done)))
      | ((with_reducible apply EV.e_callNF); (focus (and_intros; done)); (focus (and_intros; done)); (focus ((with_reducible apply EV.prop_of); with_reducible assumption)); (focus exact rfl); (focus exact rfl))
      | ((with_reducible apply EV.e_callNM); (focus (and_intros; done)); (focus (and_intros; done)))
      | with_reducible apply EV.e_lc2
      | with_reducible apply EV.e_lst
      | with_reducible apply EV.e_not
      | with_reducible apply EV.e_and
      | with_reducible apply EV.e_or
      | with_reducible apply EV.e_ite
      | (with_reducible apply EV.e_chain)
      | with_reducible exact EV.e_dnew
      | with_reducible exact EV.e_disp
      | ((with_reducible apply EV.e_dixV); (focus (and_intros; done)); (focus (and_intros; done)); (focus (and_intros; done)); (focus (first | with_reducible assumption | exact rfl)))
      | ((with_reducible apply EV.e_din); (focus (and_intros; done)); (focus (and_intros; done)); (focus (first | with_reducible assumption | exact rfl)))
      | ((with_reducible apply EV.e_dnin); (focus (and_intros; done)); (focus (and_intros; done)); (focus (first | with_reducible assumption | exact rfl)))
      | ((with_reducible apply EV.e_dget); (focus (and_intros; done)); (focus (and_intros; done)); (focus (and_intros; done)); (focus (and_intros; done)); (focus (first | with_reducible assumption | exact rfl))))
  | ((with_reducible apply EV.gdG); first
      | ((with_reducible apply EV.get_of); exact rfl))
  | ((with_reducible apply EV.gdD); first
      | with_reducible exact EV.rd_v
      | with_reducible apply EV.rd_o
      | with_reducible apply EV.rd_p)
  | ((with_reducible apply EV.gdA); first
      | with_reducible exact EV.a_n
      | ((with_reducible apply EV.a_app); (focus (and_intros; done)))
      | with_reducible apply EV.a_c)
  | ((with_reducible apply EV.gdR); first
      | ((with_reducible apply EV.gdRb); first
      | ((with_reducible apply EV.gh_bIx); first | ((with_reducible apply EV.p_ixNegM) <;> first | assumption | omega) | ((with_reducible apply EV.p_ix0); first | assumption | omega) | with_reducible exact EV.p_ix20 | with_reducible exact EV.p_ix21 | with_reducible exact EV.p_ix30 | with_reducible exact EV.p_ix31 | with_reducible exact EV.p_ix32 | ((with_reducible apply EV.p_ixLastT); assumption) | ((with_reducible apply EV.p_ixNegT); first | assumption | omega) | ((with_reducible apply EV.p_ixNegL); first | assumption | omega) | ((with_reducible apply EV.p_ixT); first | assumption | omega) | ((with_reducible apply EV.p_ixL); first | assumption | omega) | ((with_reducible apply EV.p_ixT') <;> first | assumption | omega) | ((with_reducible apply EV.p_ixL') <;> first | assumption | omega) | ((with_reducible apply IPL.p_ixTT); first | assumption | omega) | ((with_reducible apply IPL.p_ixLT); first | assumption | omega) | ((with_reducible apply EV.p_ixDT); first | assumption | omega) | ((with_reducible apply EV.p_ixDL); first | assumption | omega))
      | ((with_reducible apply EV.gh_bAdd); first | with_reducible exact EV.p_add | ((with_reducible apply EV.p_addT); (with_reducible apply EV.line_of); first | assumption | omega) | ((with_reducible apply EV.p_addL); (with_reducible apply EV.line_of); first | assumption | omega) | ((with_reducible apply EV.p_addsL); first | assumption | omega) | ((with_reducible apply EV.p_addTs); (with_reducible apply EV.line_of); first | assumption | omega) | ((with_reducible apply EV.p_addsT); (with_reducible apply EV.line_of); first | assumption | omega))
      | with_reducible exact EV.p_sub
      | ((with_reducible apply EV.p_mod); first | assumption | omega)
      | ((with_reducible apply EV.gh_bMul); first | ((with_reducible apply EV.p_repL) <;> omega) | ((with_reducible apply EV.p_repT) <;> omega) | ((with_reducible apply EV.p_mulL); first | assumption | omega) | ((with_reducible apply EV.p_mulR); first | assumption | omega) | ((with_reducible apply EV.p_mulB); first | assumption | omega))
      | ((with_reducible apply EV.p_fdiv) <;> first | assumption | omega)
      | ((with_reducible apply EV.p_fdivB) <;> first | assumption | omega)
      | ((with_reducible apply EV.gh_bPow); first | with_reducible exact EV.p_pow12 | with_reducible exact EV.p_pow17 | with_reducible exact EV.p_pow60 | with_reducible exact EV.p_pow15 | with_reducible exact EV.p_pow18)
      | with_reducible exact EV.p_lt
      | with_reducible exact EV.p_le
      | with_reducible exact EV.p_gt
      | with_reducible exact EV.p_ge
      | ((with_reducible apply EV.gh_bEq); first | with_reducible exact EV.p_eq | with_reducible exact IPL.p_eqT | with_reducible exact IPL.p_eqT1 | with_reducible exact IPL.p_eqL | with_reducible exact IPL.p_eqL0 | with_reducible exact IPL.p_eqT0 | with_reducible exact IPL.p_eqL1 | with_reducible exact IPL.p_eqTT | with_reducible exact IPL.p_eqLT | with_reducible exact EV.p_eqB)
      | ((with_reducible apply EV.gh_bNe); first | with_reducible exact EV.p_ne | with_reducible exact IPL.p_neT | with_reducible exact IPL.p_neT1 | with_reducible exact IPL.p_neL | with_reducible exact IPL.p_neT0 | with_reducible exact IPL.p_neL1 | with_reducible exact IPL.p_neTT | with_reducible exact IPL.p_neLT | with_reducible exact IPL.p_neL0 | with_reducible exact EV.p_neB)
      | ((with_reducible apply EV.p_xor) <;> first | assumption | omega)
      | with_reducible exact EV.p_shrN
      | with_reducible exact EV.p_and1
      | ((with_reducible apply EV.p_and) <;> first | assumption | omega))
      | ((with_reducible apply EV.gdRi); first
      | ((with_reducible apply EV.gh_biLen); first | with_reducible exact EV.b_len2 | with_reducible exact EV.b_len3 | with_reducible exact EV.b_lenT | with_reducible exact EV.b_lenL | with_reducible exact EV.b_lenT' | with_reducible exact EV.b_lenL')
      | with_reducible exact EV.b_int
      | with_reducible exact EV.b_intB
      | with_reducible exact EV.b_tupL
      | with_reducible exact EV.b_tupT
      | with_reducible exact EV.b_lstL
      | with_reducible exact EV.b_lstT
      | with_reducible exact EV.b_sum
      | with_reducible exact EV.b_sum2L
      | with_reducible exact EV.b_sum2T
      | with_reducible exact EV.b_any2L
      | with_reducible exact EV.b_abs
      | with_reducible exact EV.b_max
      | with_reducible exact EV.b_min
      | with_reducible exact EV.b_gcd)
      | ((with_reducible apply EV.gdRu); first
      | ((with_reducible apply EV.gh_uIs); first | with_reducible exact EV.is_ii | with_reducible exact EV.is_bi | with_reducible exact EV.is_tt | with_reducible exact EV.is_tl | with_reducible exact EV.is_lt | with_reducible exact EV.is_ll)
      | ((with_reducible apply EV.gh_uIsN); first | with_reducible exact EV.uisn | with_reducible exact EV.uisn_i | with_reducible exact EV.uisn_t)
      | ((with_reducible apply EV.gh_uNotN); first | with_reducible exact EV.unn | with_reducible exact EV.unn_i | with_reducible exact EV.unn_t)
      | with_reducible exact EV.p_bitsN
      | with_reducible exact EV.p_neg
      | with_reducible exact EV.p_revT
      | with_reducible exact EV.p_revL
      | with_reducible exact EV.p_tupRev)
      | ((with_reducible apply EV.gh_cutR); first | with_reducible exact EV.cut_to1 | with_reducible exact EV.cut_to1L | with_reducible exact EV.cut_fr1 | with_reducible exact EV.cut_fr1L | with_reducible exact EV.cut_toT | with_reducible exact EV.cut_toL | with_reducible exact EV.cut_frT | with_reducible exact EV.cut_frL | with_reducible exact EV.cut_lastT | with_reducible exact EV.cut_last1 | with_reducible exact EV.cut_last1L | ((with_reducible apply EV.cut_toI); first | assumption | omega) | ((with_reducible apply EV.cut_frI); first | assumption | omega) | with_reducible exact EV.cut_lastL)
      | ((with_reducible apply EV.gh_outR); first | with_reducible exact EV.or_n | with_reducible exact EV.or_r | ((with_reducible apply EV.or_of); exact rfl) | ((with_reducible apply EV.or_bt); focus infer_instance)))
  | ((with_reducible apply EV.gdS); first
      | with_reducible apply EV.s_seq
      | ((with_reducible apply EV.gh_seqK); first | with_reducible exact EV.q_rt | with_reducible apply EV.q_nx | with_reducible exact EV.q_bk | with_reducible exact EV.q_ct | with_reducible exact EV.q_ro)
      | with_reducible apply EV.s_set
      | with_reducible apply EV.s_if
      | ((with_reducible apply EV.if_t); (focus infer_instance))
      | ((with_reducible apply EV.if_f); (focus infer_instance))
      | with_reducible exact EV.s_pass
      | with_reducible apply EV.s_ret
      | with_reducible apply EV.s_ex
      | ((with_reducible apply EV.s_appI); ((with_reducible apply EV.ow_o); (with_reducible apply EV.get_of); exact rfl); (focus (and_intros; done)); ((with_reducible apply EV.get_of); exact rfl))
      | ((with_reducible apply EV.s_appO); ((with_reducible apply EV.ow_o); (with_reducible apply EV.get_of); exact rfl))
      | ((with_reducible apply EV.s_fld); (focus (and_intros; done)); (focus (and_intros; done)); (focus exact rfl); (focus (and_intros; done)); (focus exact rfl); (focus exact rfl))
      | ((with_reducible apply EV.s_faug); (focus (and_intros; done)); (focus exact rfl); (focus exact rfl); (focus (and_intros; done)); (focus (and_intros; done)); (focus exact rfl); (focus exact rfl))
      | ((with_reducible apply EV.s_fapp); (focus (and_intros; done)); (focus ((with_reducible apply EV.get_of); exact rfl)); (focus (first | assumption | omega)))
      | ((with_reducible apply EV.s_callN); (focus (and_intros; done)); (focus (and_intros; done)))
      | ((with_reducible apply EV.s_retG); ((with_reducible apply EV.get_of); exact rfl))
      | with_reducible exact EV.s_brk
      | with_reducible exact EV.s_cnt
      | with_reducible exact EV.s_retN
      | with_reducible apply EV.s_unp
      | with_reducible apply EV.s_par
      | ((with_reducible apply EV.s_augI); ((with_reducible apply EV.get_of); exact rfl))
      | ((with_reducible apply EV.s_setIxN); (focus (and_intros; done)); (focus ((with_reducible apply EV.ow_o); (with_reducible apply EV.get_of); exact rfl)); (focus (and_intros; done)); (focus ((with_reducible apply EV.get_of); exact rfl)); (focus (first | assumption | omega)))
      | ((with_reducible apply EV.s_setIxI); (focus (and_intros; done)); (focus ((with_reducible apply EV.ow_o); (with_reducible apply EV.get_of); exact rfl)); (focus (and_intros; done)); (focus ((with_reducible apply EV.get_of); exact rfl)); (focus (first | assumption | omega)))
      | ((with_reducible apply EV.s_augIxN); (focus ((with_reducible apply EV.ow_o); (with_reducible apply EV.get_of); exact rfl)); (focus (and_intros; done)); (focus ((with_reducible apply EV.get_of); exact rfl)); (focus (and_intros; done)); (focus ((with_reducible apply EV.get_of); exact rfl)); (focus (first | assumption | omega)))
      | ((with_reducible apply EV.s_pop); (focus ((with_reducible apply EV.get_of); exact rfl)); (focus assumption))
      | ((with_reducible apply EV.s_setIx); (focus (and_intros; done)); ((with_reducible apply EV.ow_o); (with_reducible apply EV.get_of); exact rfl); (focus (and_intros; done)); ((with_reducible apply EV.get_of); exact rfl))
      | with_reducible apply EV.s_for
      | with_reducible apply EV.s_while
      | ((with_reducible apply EV.s_dset); (focus (and_intros; done)); (focus (and_intros; done)); (focus (and_intros; done)); (focus (and_intros; done)); (focus (and_intros; done)); (focus (first | with_reducible assumption | exact rfl))))
  | ((with_reducible apply EV.gdL); first
      | ((with_reducible apply EV.gP); ((with_reducible apply EV.get_of); exact rfl))
      | ((with_reducible apply EV.gO); ((with_reducible apply EV.get_of); exact rfl))
      | with_reducible exact EV.ra_n
      | with_reducible apply EV.ra_c
      | with_reducible exact EV.vs_n
      | with_reducible apply EV.vs_c)
  | ((with_reducible apply EV.gdE); first
      | ((with_reducible apply EV.gh_setSlot); first | with_reducible exact EV.st_0u | with_reducible exact EV.st_0d | with_reducible exact EV.st_0o | ((with_reducible apply EV.st_0f); first | assumption | exact EV.fr_d | exact EV.fr_u) | ((with_reducible apply EV.st_0g); assumption) | with_reducible apply EV.st_s | with_reducible exact EV.st_0k)
      | with_reducible exact EV.u_n
      | ((with_reducible apply EV.u_u); ((with_reducible apply EV.get_of); exact rfl))
      | ((with_reducible apply EV.u_d); ((with_reducible apply EV.get_of); exact rfl))
      | with_reducible apply EV.t_nm
      | with_reducible apply EV.t_tup
      | with_reducible exact EV.sd_n
      | with_reducible apply EV.sd_c
      | with_reducible exact EV.sr_n
      | with_reducible apply EV.sr_c)
  | ((with_reducible apply EV.gdT); first
      | with_reducible apply EV.t_B
      | with_reducible apply EV.t_V
      | with_reducible apply EV.t_not
      | with_reducible apply EV.t_and
      | with_reducible apply EV.t_or
      | ((with_reducible apply EV.orT_f); (focus infer_instance))
      | ((with_reducible apply EV.orT_t); (focus infer_instance))
      | ((with_reducible apply EV.andT_t); (focus infer_instance))
      | ((with_reducible apply EV.andT_f); (focus infer_instance)))
  | ((with_reducible apply EV.gdLs); first
      | with_reducible exact EV.ls_0
      | with_reducible apply EV.ls_s)
  | ((with_reducible apply EV.gdSl); first
      | with_reducible exact EV.so_d
      | with_reducible exact EV.so_n
      | with_reducible exact EV.so_nd)
  | ((with_reducible apply EV.gdBo); first
      | with_reducible exact EV.stl_n
      | ((with_reducible apply EV.stl_o); (with_reducible apply EV.get_of); exact rfl)
      | ((with_reducible apply EV.bo_nf); focus infer_instance)
      | ((with_reducible apply EV.bo_nt); focus infer_instance))
  | ((with_reducible apply EV.gdEn); first
      | ((with_reducible apply EV.pP); (focus ((with_reducible apply EV.get_of); exact rfl)))
      | ((with_reducible apply EV.pO); (focus ((with_reducible apply EV.get_of); exact rfl)))
      | with_reducible exact EV.ba_n
      | ((with_reducible apply EV.ba_c); ((with_reducible apply EV.get_of); exact rfl)))
  | ((with_reducible apply EV.gdDd); first
      | with_reducible exact EV.td_d
      | with_reducible exact EV.td_n
      | with_reducible exact EV.td_nd)
  | ((with_reducible apply EV.gdI); first
      | ((with_reducible apply EV.i_r1); (focus (and_intros; done)); omega)
      | ((with_reducible apply EV.i_r1'); (focus (and_intros; done)); omega; omega)
      | ((with_reducible apply EV.i_r2); (focus (and_intros; done)); (focus (and_intros; done)); omega; omega; omega; omega)
      | ((with_reducible apply EV.i_rT); (focus (and_intros; done)))
      | ((with_reducible apply EV.i_rL); (focus (and_intros; done)))
      | ((with_reducible apply EV.i_zT); (focus (and_intros; done)); (focus (and_intros; done)))
      | ((with_reducible apply EV.i_zL); (focus (and_intros; done)); (focus (and_intros; done)))
      | ((with_reducible apply EV.i_enT); (focus (and_intros; done)))
      | ((with_reducible apply EV.i_enL); (focus (and_intros; done)))
      | ((with_reducible apply EV.i_rr1); (focus (and_intros; done)); omega)
      | ((with_reducible apply EV.i_ET); (focus (and_intros; done)))
      | ((with_reducible apply EV.i_E); (focus (and_intros; done)))
      | ((with_reducible apply EV.i_EO); (focus (and_intros; done)); (focus (and_intros; done))))
  | ((with_reducible apply EV.gdTr); first
      | ((with_reducible apply EV.gh_truth); first | with_reducible exact EV.tr_b | with_reducible exact EV.tr_T | with_reducible exact EV.tr_L | with_reducible exact EV.tr_i | with_reducible exact EV.tr_n))
  | ((with_reducible apply EV.gdLc); first
      | ((with_reducible apply EV.l_intR); (intro _ _; with_reducible apply EV.lt_y))
      | ((with_reducible apply EV.l_int); (intro _ _; with_reducible apply EV.lt_y)))
  | ((with_reducible apply EV.gdP); first
      | with_reducible exact EV.pe_n
      | with_reducible apply EV.pe_c)
  | ((with_reducible apply EV.gdPo); first
      | with_reducible exact EV.pn
      | with_reducible apply EV.ps)
  | ((with_reducible apply EV.line_of); first | assumption | (simp only [List.length_map, List.length_range, List.length_append, List.length_cons, List.length_nil, List.length_reverse, List.length_zip, List.length_take, List.length_drop, List.length_dropLast]; omega))
  | ((with_reducible apply EV.line_lt); first | assumption | (simp only [List.length_map, List.length_range, List.length_append, List.length_cons, List.length_nil, List.length_reverse, List.length_zip, List.length_take, List.length_drop, List.length_dropLast]; omega))
  | ((with_reducible apply EV.dctI_of); ((with_reducible apply EV.get_of); exact rfl))))
abbrev T12 : Int := 1000000000000
abbrev T40 : Int := 10000000000000000000000000000000000000000
theorem most_ix {k : Int} (h : 0 ≤ k ∧ k < 4) : ∃ v : Int, bIx (.list [.int 9, .int 300, .int 1000000000000, .int 10000000000000000000000000000000000000000]) (.int k) = some (.dat (.int v)) ∧ 9 ≤ v ∧ v ≤ T40 := by
  have : k = 0 ∨ k = 1 ∨ k = 2 ∨ k = 3 := by omega
  rcases this with rfl | rfl | rfl | rfl
  · exact ⟨9, rfl, by omega, by unfold T40; omega⟩
  · exact ⟨300, rfl, by omega, by unfold T40; omega⟩
  · exact ⟨1000000000000, rfl, by omega, by unfold T40; omega⟩
  · exact ⟨10000000000000000000000000000000000000000, rfl, by omega, by unfold T40; omega⟩
theorem ub134 {x : Int} (h1 : -(2 * T40) ≤ x) (h2 : x ≤ 2 * T40) : ub 135 x := by
  have e : (2 : Int) ^ 135 = 43556142965880123323311949751266331066368 := by decide
  refine ub_of ?_ ?_ <;> rw [e] <;> unfold T40 at * <;> omega
theorem law_run_true (n : Nat) (ns : List Int) : run (n + 12) "law" none [scr ns] = some (.dat (.bool true), none) := by
  have hx0 : RowOk ns [scr ns, .int 0, .int 5070, .int 0] := ⟨0, 5070, 0, rfl, by decide⟩
  obtain ⟨p, x1, d1, hp, hx1⟩ := I_prime (n + 8) hx0
  have pp := prime_pos hp
  obtain ⟨k4, x2, d2, hk4, hx2⟩ := I_taken (n + 10) hx1 (m := 4) (okM_s (by decide) (by decide))
  obtain ⟨v, ix, hv1, hv2⟩ := most_ix hk4
  have p1 : bPow (.int 10) (.int 12) = some (.dat (.int 1000000000000)) := by rfl
  have p2 : bPow (.int 10) (.int 40) = some (.dat (.int 10000000000000000000000000000000000000000)) := by rfl
  have m0 : bMul (.int 2) (.int v) = some (.dat (.int (2 * v))) := EV.p_mulL (by omega)
  have uv := (ub134 (x := v) (by unfold T40 at *; omega) (by unfold T40 at *; omega)).log (by omega)
  have uv2 := (ub134 (x := 2 * v) (by unfold T40 at *; omega) (by unfold T40 at *; omega)).log (by omega)
  obtain ⟨a0, x3, d3, ha0, hx3⟩ := I_taken (n + 10) hx2 (m := 2 * v) ⟨by omega, .inr (by omega)⟩
  obtain ⟨lo, x4, d4, hlo, hlp, hx4⟩ := I_law_low (n + 9) hx3 hp (m := v) ⟨by omega, .inr (by omega)⟩
  have ulo : ub 749 lo := (ub134 (x := lo) (by unfold T40 at *; omega) (by unfold T40 at *; omega)).mono (by omega)
  have e5 := I_law_lowest_of (n + 9) (a0 - v) (l := lo) (by omega) ulo
  obtain ⟨g, hg⟩ : ∃ g, g = Nat.gcd (a0 - v).natAbs lo.natAbs := ⟨_, rfl⟩
  rw [← hg] at e5
  have g0 : 0 < g := by
    rw [hg]
    exact Nat.gcd_pos_of_pos_right _ (by omega)
  obtain ⟨da, hda⟩ : (g : Int) ∣ a0 - v := by
    rw [hg]
    exact Int.ofNat_dvd_left.mpr (Nat.gcd_dvd_left ..)
  obtain ⟨dl, hdl⟩ : (g : Int) ∣ lo := by
    rw [hg]
    exact Int.ofNat_dvd_left.mpr (Nat.gcd_dvd_right ..)
  have qa : (a0 - v) / (g : Int) = da := by
    rw [hda]
    exact Int.mul_ediv_cancel_left _ (by omega)
  have ql : lo / (g : Int) = dl := by
    rw [hdl]
    exact Int.mul_ediv_cancel_left _ (by omega)
  rw [qa, ql] at e5
  have cy : Nat.gcd da.natAbs dl.natAbs = 1 := by
    have h : Nat.gcd (g * da.natAbs) (g * dl.natAbs) = g := by
      have : Nat.gcd ((g : Int) * da).natAbs ((g : Int) * dl).natAbs = g := by rw [← hda, ← hdl]; exact hg.symm
      rw [Int.natAbs_mul, Int.natAbs_mul, Int.natAbs_natCast] at this
      exact this
    rw [Nat.gcd_mul_left] at h
    exact Nat.eq_of_mul_eq_mul_left g0 (by rw [h, Nat.mul_one])
  have dlp : 1 ≤ dl := by
    have h : 0 < (g : Int) * dl := by rw [← hdl]; omega
    have := Int.pos_of_mul_pos_right (a := (g : Int)) (b := dl) h (by omega)
    omega
  have dll : dl ≤ lo := by
    have := Int.mul_le_mul_of_nonneg_right (show (1 : Int) ≤ (g : Int) by omega) (show 0 ≤ dl by omega)
    omega
  have dal : (da.natAbs : Int) ≤ ((a0 - v).natAbs : Int) := by
    rw [hda, Int.natAbs_mul, Int.natAbs_natCast, Int.natCast_mul]
    have := Int.mul_le_mul_of_nonneg_right (show (1 : Int) ≤ (g : Int) by omega) (show 0 ≤ (da.natAbs : Int) by omega)
    omega
  have dp : dl % p ≠ 0 := fun h => hlp (by
    obtain ⟨c, hc⟩ := Int.dvd_of_emod_eq_zero h
    rw [hdl, hc, Int.mul_left_comm]
    exact Int.mul_emod_right ..)
  obtain ⟨y, hy⟩ : ∃ y : Int × Int, y = (da, dl) := ⟨_, rfl⟩
  have e5 : run (n + 9 + 2) "_law_lowest_of" none [.int (a0 - v), .int lo] = some (.dat (pD y), none) := by rw [hy]; exact e5
  have y1 : y.1 = da := by rw [hy]
  have y2 : y.2 = dl := by rw [hy]
  rw [← y1, ← y2] at cy
  rw [← y2] at dlp dll dp
  rw [← y1] at dal
  clear hda hdl qa ql y1 y2 hy
  have uy : ub 150 y.1 ∧ ub 150 y.2 := ⟨(ub134 (x := y.1) (by unfold T40 at *; omega) (by unfold T40 at *; omega)).mono (by omega), (ub134 (x := y.2) (by unfold T40 at *; omega) (by unfold T40 at *; omega)).mono (by omega)⟩
  have szy : sz y ≤ T40 + 1 := by
    unfold sz
    omega
  have sz0 := sz_nn y
  have hS : 2 * sz y * sz y < 2 ^ 300 := by
    have h1 := Int.mul_le_mul szy szy sz0 (show 0 ≤ T40 + 1 by decide)
    have h2 : 2 * ((T40 + 1) * (T40 + 1)) < 2 ^ 300 := by decide
    rw [Int.mul_assoc]
    omega
  obtain ⟨d9, e6⟩ := cnt_loop (n + 11) ns x4 hp (.dat (.int v)) (.dat (.int (a0 - v))) (.dat (.int lo)) uy dlp hS
  obtain ⟨c1, c2⟩ := cntK_ok hp hS 400
  have c2 : 2 * sz y * sz y < p ^ cntK p (sz y) 400 := by
    rcases c2 with c2 | c2
    · omega
    · exact c2
  obtain ⟨c, hc⟩ : ∃ c, c = cntK p (sz y) 400 := ⟨_, rfl⟩
  rw [← hc] at e6 c1 c2
  obtain ⟨t20, x5, d5, ht20, hx5⟩ := I_taken (n + 10) hx4 (m := 20) (okM_s (by decide) (by decide))
  obtain ⟨t, rfl⟩ : ∃ t : Nat, t20 = (t : Int) := ⟨t20.toNat, by omega⟩
  obtain ⟨m, hm⟩ := inv_ex hp dp
  have e7 := I_fraction_row (n + 6) (p := p) (a := y.1) (l := y.2) hp (by unfold M60 T40 at *; omega) (by unfold M60 T40 at *; omega) dlp (by unfold M60 T40 at *; omega) dp hm (k := c + t) (by omega)
  obtain ⟨row, hrow⟩ : ∃ row, row = figs p y.2 m (c + t) y.1 := ⟨_, rfl⟩
  have hn : nums p row := by rw [hrow]; exact figs_nums hp _ _ _ _
  have hl : row.length = c + t := by rw [hrow, figs_len]
  have hin : InL (p ^ row.length) (val p row) y := by rw [hrow]; exact figs_inl hp hm ..
  rw [← hrow] at e7
  obtain ⟨z, e8, Z⟩ := I__least_of (n + 6) hp hn (by omega)
  have hzy : z = y := by
    refine told_back hp Z hin cy dlp dp ?_
    rw [hl, Int.pow_add, ← Int.mul_assoc]
    have h1 := pow_pos' hp t
    have h2 := Int.mul_le_mul_of_nonneg_left (show (1 : Int) ≤ p ^ t by omega) (show 0 ≤ p ^ c from Int.le_of_lt (pow_pos' hp c))
    omega
  subst hzy
  have e9 := I_least_fraction (n + 9) e8
  have e10 := I_carry_span (n + 9) e8 dlp
  have e11 := I_alike_row (n + 9) [z.1, z.2] (by simp)
  have e11 : run (n + 9 + 2) "_law_alike" none [pD z, pD z] = some (.dat (.bool true), none) := e11
  have e12 := I_alike_int (n + 10) (sz z)
  have i0 : bIx (pD z) (.int 0) = some (.dat (.int z.1)) := rfl
  have i1 : bIx (pD z) (.int 1) = some (.dat (.int z.2)) := rfl
  have ab : biAbs [.int z.1] = some (.dat (.int (z.1.natAbs : Int))) := by rw [biAbs, abs_nat]
  have mx : biMax [.int (z.1.natAbs : Int), .int z.2] = some (.dat (.int (sz z))) := by
    rw [EV.b_max]
    have : (if z.2 > (z.1.natAbs : Int) then z.2 else (z.1.natAbs : Int)) = sz z := by
      unfold sz
      split <;> omega
    rw [this]
  have dr : Draws (run (n + 11) "_law_taken") ns p := fun xs hx => I_taken (n + 10) hx (okM_s (by omega) (by omega))
  obtain ⟨L, x6, l1, hl1, hn1, hx6⟩ := lc_draws dr (v := 15) (e := W_law_2 (run (n + 11))) (fun xs => E70 ns xs p (.dat (.int v)) (.dat (.int (a0 - v))) (.dat (.int lo)) (pD z) (.dat (.int (c : Int))) (.dat (.int (p ^ c))) (.dat d9) (.dat (iT row)) .un .un .un .un) (fun xs d => [.dat (scr ns), .own xs, .dat (.int p), .dat (.int v), .dat (.int (a0 - v)), .dat (.int lo), .dat (pD z), .dat (.int (c : Int)), .dat (.int (p ^ c)), .dat d9, .dat (iT row), .un, .un, .un, .un, .dat d])
    (fun xs d => by
      generalize p ^ c = P
      generalize pD z = Y
      and_intros) (fun xs d k xs' h => by
      generalize p ^ c = P
      generalize pD z = Y
      and_intros) (fun xs d => by
      generalize p ^ c = P
      generalize pD z = Y
      and_intros) ((List.range (Int.toNat 40)).map EV.encN) ((List.range (Int.toNat 40)).map EV.encN) x5 hx5
  simp only [List.length_map, List.length_range] at hl1
  have hl40 : L.length = 40 := hl1
  obtain ⟨δ', e13⟩ := grow_loop n ns x6 hp (.dat (.int v)) (.dat (.int (a0 - v))) (.dat (.int lo)) (pD z) (.int (c : Int)) (.dat (.int (p ^ c))) (.dat d9) (.dat (iT row)) hn1 hl40
  have rl : (L.map PyData.int).length ≤ 16000000 := by rw [List.length_map]; omega
  have rg : ((List.range (Int.toNat 40)).map EV.encN).length ≤ 16000000 := by rw [List.length_map, List.length_range]; decide
  have st : iStep5 (oV (vC (.int 0))) (oV (vC (.int 41))) (E70 ns x6 p (.dat (.int v)) (.dat (.int (a0 - v))) (.dat (.int lo)) (pD z) (.dat (.int (c : Int))) (.dat (.int (p ^ c))) (.dat d9) (.dat (iT row)) (.dat (iT L)) (.dat (.int 1)) .un .un) = some ((upD5 0 ((41 - 0 + 4 : Int) / 5).toNat, none), E70 ns x6 p (.dat (.int v)) (.dat (.int (a0 - v))) (.dat (.int lo)) (pD z) (.dat (.int (c : Int))) (.dat (.int (p ^ c))) (.dat d9) (.dat (iT row)) (.dat (iT L)) (.dat (.int 1)) .un .un) := iStep5_at rfl rfl (by decide) (by decide)
  have e7 : run (n + 6 + 5) "fraction_row" none [.int p, pD z, .int ((c : Int) + (t : Int))] = some (.dat (iT row), none) := e7
  clear hx0 hx1 hx2 hx3 hx4 hx5 hx6 hn hl hin Z hrow hm hc c1 c2 hS szy sz0 uy dal dll dp dlp cy g0 hg ulo uv uv2 hv1 hv2 hlo hlp dr hn1 hl1 hl40 e8
  generalize sz z = S at *
  generalize p ^ c = P at *
  generalize pD z = X at *
  generalize z.1.natAbs = a1 at *
  generalize upD5 0 ((41 - 0 + 4 : Int) / 5).toNat = U at *
  apply go_law
  and_intros
theorem law_true (ns : List Int) (_ : ns.length ≤ 63) : run 30 "law" none [scr ns] = some (.dat (.bool true), none) := law_run_true 18 ns
end IPL
end
section
set_option Elab.async false
set_option linter.all false
set_option maxRecDepth 100000
set_option maxHeartbeats 1000000
open PySem PySem.W PySem.Calls PyProof.Rows
theorem PySem.Challenge.cw_taprows_k70_whole_fractions_told_back_holds : PySem.Challenge.rw_taprows_k70_whole_fractions_told_back.Holds := by
  exact IPL.fin_law IPL.law_true
end
