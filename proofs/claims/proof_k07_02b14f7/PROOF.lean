import PyProof.Rows.All
import Wide.All
import OpenK.AllK
import Wide.FinOn
import HandS.ForMost
import HandS.Flow
import HandS.IsInst
import HandS.TupAny
import HandS.TupLe
import HandS.Wide
import HandS.ForExc
import HandS.ExcInit
import HandS.Walk
import HandS.Zip
import HandS.Style
import HandS.Conv
import HandS.Small
import HandS.TupMul
import KE.GoesEnum
import KE.GoesZip
import PyProof.Rows.ReprOcc
import PySem.Challenge.RW_carrynet_k07_arrivals_carries_states
set_option Elab.async false
set_option linter.all false
set_option maxRecDepth 100000
set_option maxHeartbeats 4000000
/-! A small evaluator over data: tuples are plain values, lists and dicts stand in a store. -/
namespace Mp
open PySem

inductive D where
  | non | bl (b : Bool) | int (i : Int) | str (x : Str) | tup (l : List D) | ref (n : Nat)
  /-- a list that nobody writes -/
  | fl (l : List D)
  deriving Inhabited

/-- lst: a list; dct: a dict -/
inductive MO where
  | lst (l : List D)
  | dct (l : List (L2.Key × D))
  deriving Inhabited

abbrev Mem := List MO
abbrev S := List (Option D)

structure Exn where
  cls : Str
  fs : List (Str × D)

inductive Res (α : Type) where
  | ok (a : α) (m : Mem)
  | exc (e : Exn) (m : Mem)
  | bad

namespace Res
def bind {α β : Type} (r : Res α) (f : α → Mem → Res β) : Res β := match r with
  | ok a m => f a m
  | exc e m => exc e m
  | bad => bad
@[simp] theorem bind_ok {α β : Type} (a : α) (m : Mem) (f : α → Mem → Res β) : (ok a m).bind f = f a m := rfl
@[simp] theorem bind_exc {α β : Type} (e : Exn) (m : Mem) (f : α → Mem → Res β) : (exc e m : Res α).bind f = exc e m := rfl
@[simp] theorem bind_bad {α β : Type} (f : α → Mem → Res β) : (bad : Res α).bind f = bad := rfl
def ofO {α : Type} (o : Option α) (m : Mem) : Res α := match o with
  | some a => ok a m
  | none => bad
@[simp] theorem ofO_some {α : Type} (a : α) (m : Mem) : ofO (some a) m = ok a m := rfl
@[simp] theorem ofO_none {α : Type} (m : Mem) : (ofO none m : Res α) = bad := rfl
end Res

/-- the list that stands at n -/
def listAt (M : List MO) (n : Nat) : Option (List D) := match M[n]? with
  | some (.lst l) => some l
  | _ => none
/-- a list's items -/
def lstOf (M : List MO) : D → Option (List D)
  | .ref n => listAt M n
  | .fl l => some l
  | _ => none
/-! ### data read through the store -/
def mapO {α β : Type} (f : α → Option β) : List α → Option (List β)
  | [] => some []
  | a :: r => match f a, mapO f r with
    | some b, some s => some (b :: s)
    | _, _ => none
def keyD : L2.Key → PyData
  | .inl i => .int i
  | .inr s => .str s
def rd : Nat → Mem → D → Option PyData
  | 0, _, _ => none
  | k + 1, M, d => match d with
    | .non => some .none
    | .bl b => some (.bool b)
    | .int i => some (.int i)
    | .str x => some (.str x)
    | .tup l => (mapO (rd k M) l).map .tuple
    | .ref n => match listAt M n with
      | some l => (mapO (rd k M) l).map .list
      | none => none
    | .fl l => (mapO (rd k M) l).map .list
/-- how deep data may lie -/
def deep : Nat := 40

/-! ### operators -/
inductive Bop where
  | add | sub | mul | fdiv | mod | pow
  deriving DecidableEq
inductive Cop where
  | eq | ne | lt | le | gt | ge | isq | isn | isin | notin
  deriving DecidableEq

def truth (M : Mem) : D → Option Bool
  | .non => some false
  | .bl b => some b
  | .int i => some (i != 0)
  | .str x => if x.length ≤ sizeLine then some ((x.length : Int) != 0) else none
  | .tup l => some (!l.isEmpty)
  | .ref n => match M[n]? with
    | some (.lst l) => some (!l.isEmpty)
    | some (.dct l) => some (!l.isEmpty)
    | none => none
  | .fl l => some (!l.isEmpty)

/-- the product may be made -/
def mulOk (i j : Int) : Bool := decide ((-(2 ^ 64) < i ∧ i < 2 ^ 64) ∨ (-(2 ^ 64) < j ∧ j < 2 ^ 64) ∨ i.natAbs.log2 + j.natAbs.log2 < 1000000)
def small (n : Nat) : Bool := decide (n ≤ sizeLine)

def addD (a b : D) (M : Mem) : Res D := match a, b with
  | .int a, .int b => .ok (.int (a + b)) M
  | .str a, .str b => if a.length + b.length ≤ sizeLine then .ok (.str (a ++ b)) M else .bad
  | .tup a, .tup b => if a.length + b.length ≤ sizeLine then .ok (.tup (a ++ b)) M else .bad
  | a, b => match lstOf M a, lstOf M b with
    | some x, some y => if x.length ≤ sizeLine ∧ y.length ≤ sizeLine ∧ x.length + y.length ≤ sizeLine then .ok (.ref M.length) (M ++ [.lst (x ++ y)]) else .bad
    | _, _ => .bad
def subD (a b : D) (M : Mem) : Res D := match a, b with
  | .int a, .int b => .ok (.int (a - b)) M
  | _, _ => .bad
def mulD (a b : D) (M : Mem) : Res D := match a, b with
  | .int a, .int b => if mulOk a b = true then .ok (.int (a * b)) M else .bad
  | .tup l, .int k => if l ≠ [] ∧ 1 ≤ k ∧ k ≤ 1000 ∧ l.length ≤ 1000 then .ok (.tup (List.replicate k.toNat l).flatten) M else .bad
  | .ref a, .int k => match listAt M a with
    | some x => if 0 ≤ k ∧ k ≤ 1000 ∧ x.length ≤ 1000 then .ok (.ref M.length) (M ++ [.lst (List.replicate k.toNat x).flatten]) else .bad
    | none => .bad
  | _, _ => .bad
def fdivD (a b : D) (M : Mem) : Res D := match a, b with
  | .int a, .int b => if 0 < b ∧ b.natAbs.log2 < 9000 then .ok (.int (a / b)) M else .bad
  | _, _ => .bad
def modD (a b : D) (M : Mem) : Res D := match a, b with
  | .int a, .int b => if 0 < b then .ok (.int (a % b)) M else .bad
  | _, _ => .bad
def powD (a b : D) (M : Mem) : Res D := match a, b with
  | .int a, .int b => if 0 ≤ b ∧ b ≤ 1000000 ∧ a.natAbs < 2 ^ 64 then .ok (.int (a ^ b.toNat)) M else .bad
  | _, _ => .bad
def bop : Bop → D → D → Mem → Res D
  | .add => addD | .sub => subD | .mul => mulD | .fdiv => fdivD | .mod => modD | .pow => powD

def allInts : List D → Option (List Int)
  | [] => some []
  | .int i :: r => (allInts r).map (i :: ·)
  | _ :: _ => none
def leT (ns ms : List Int) : Bool := Ob.lexAt (fun j => decide (ns.getD j 0 = ms.getD j 0)) (fun j => decide (ns.getD j 0 ≤ ms.getD j 0)) (decide (ns.length ≤ ms.length)) 0 (min ns.length ms.length)
/-- == by data -/
def eqD (M : Mem) (a b : D) : Option Bool := match rd deep M a, rd deep M b with
  | some x, some y => if SeqAt.shaped x && SeqAt.shaped y then some (PyData.eqv x y) else none
  | _, _ => none
/-- members that may be looked for -/
def flatD : D → Bool
  | .non => true | .bl _ => true | .int _ => true | .str _ => true
  | _ => false
/-- == of flat things -/
def eqF : D → D → Bool
  | .non, .non => true
  | .bl a, .bl b => a == b
  | .bl a, .int b => (if a then 1 else 0) == b
  | .int a, .bl b => a == (if b then 1 else 0)
  | .int a, .int b => a == b
  | .str a, .str b => a == b
  | _, _ => false
def items (M : Mem) : D → Option (List D)
  | .tup l => some l
  | .ref n => listAt M n
  | .fl l => some l
  | _ => none
def ltD (a b : D) : Option Bool := match a, b with
  | .int a, .int b => some (decide (a < b))
  | .tup a, .tup b => match allInts a, allInts b with
    | some x, some y => some (HT.lexLt x y)
    | _, _ => none
  | _, _ => none
def leD (a b : D) : Option Bool := match a, b with
  | .int a, .int b => some (decide (a ≤ b))
  | .tup a, .tup b => match allInts a, allInts b with
    | some x, some y => some (leT x y)
    | _, _ => none
  | _, _ => none
def gtD (a b : D) : Option Bool := match a, b with
  | .int a, .int b => some (decide (b < a))
  | _, _ => none
def geD (a b : D) : Option Bool := match a, b with
  | .int a, .int b => some (decide (b ≤ a))
  | _, _ => none
def isNonD : D → Bool
  | .non => true
  | _ => false
def inD (M : Mem) (a b : D) : Option Bool := match items M b with
  | some l => if flatD a && l.all flatD then some (l.any fun y => eqF y a) else none
  | none => none
def cop (o : Cop) (a b : D) (M : Mem) : Option Bool := match o with
  | .eq => eqD M a b
  | .ne => (eqD M a b).map (!·)
  | .lt => ltD a b
  | .le => leD a b
  | .gt => gtD a b
  | .ge => geD a b
  | .isq => if isNonD b = true then some (isNonD a) else none
  | .isn => if isNonD b = true then some (!isNonD a) else none
  | .isin => inD M a b
  | .notin => (inD M a b).map (!·)

/-! ### places -/
def atD {α : Type} (l : List α) (i : Int) : Option α := L2.atI l i
def keyOf : D → Option L2.Key
  | .int i => some (.inl i)
  | .str s => some (.inr s)
  | _ => none
def kget {α : Type} (l : List (L2.Key × α)) (k : L2.Key) : Option α := (l.find? fun q => decide (q.1 = k)).map (·.2)
def kput {α : Type} (l : List (L2.Key × α)) (k : L2.Key) (v : α) : List (L2.Key × α) :=
  if (l.any fun q => decide (q.1 = k)) = true then l.map (fun q => if q.1 = k then (q.1, v) else q) else l ++ [(k, v)]
def idxD (a i : D) (M : Mem) : Option D := match a, i with
  | .tup l, .int k => atD l k
  | .fl l, .int k => atD l k
  | .ref n, k => match M[n]? with
    | some (.lst l) => match k with
      | .int j => atD l j
      | _ => none
    | some (.dct l) => match keyOf k with
      | some x => kget l x
      | none => none
    | none => none
  | _, _ => none
def cutD {α : Type} (l : List α) (lo hi : Option Int) : List α := (l.drop (HT.sIx l.length 0 lo)).take (HT.sIx l.length l.length hi - HT.sIx l.length 0 lo)
def slcD (a : D) (p q : Option Int) (M : Mem) : Res D := match a with
  | .tup l => .ok (.tup (cutD l p q)) M
  | a => match lstOf M a with
    | some l => if l.length ≤ sizeLine then .ok (.ref M.length) (M ++ [.lst (cutD l p q)]) else .bad
    | none => .bad
/-- a[i] = v -/
def setD (a i v : D) (M : Mem) : Option Mem := match a with
  | .ref n => match M[n]? with
    | some (.lst l) => match i with
      | .int j => if 0 ≤ j ∧ j < l.length then some (M.set n (.lst (l.set j.toNat v))) else none
      | _ => none
    | some (.dct l) => match keyOf i with
      | some k => if l.length < 1000 then some (M.set n (.dct (kput l k v))) else none
      | none => none
    | _ => none
  | _ => none
end Mp

set_option Elab.async false
set_option linter.all false
set_option maxRecDepth 100000
set_option maxHeartbeats 4000000
set_option autoImplicit false
namespace Mp
open PySem

/-- targets: a name's slot, or a flat tuple of slots -/
inductive Tg where
  | n (i : Nat) | t (l : List Nat)
  deriving DecidableEq
inductive Bf where
  | len | repr | tuple | list | tupleR | listR | sum | min2 | max2 | abs | minL | maxL | sorted
  deriving DecidableEq
inductive Mf where
  | append | pop | popAt | count | extend | join | get2
  deriving DecidableEq
mutual
inductive Ir where
  | bad | c (d : D) | v (i : Nat) | g (x : Str)
  | bin (o : Bop) (a b : Ir) | neg (a : Ir) | nt (a : Ir)
  | cmp (o : Cop) (a b : Ir) | chn (o p : Cop) (a b c : Ir)
  | an (a b : Ir) | orr (a b : Ir) | ite (c a b : Ir)
  | tup (l : Irs) | lst (l : Irs) | dct (ks : List Str) (l : Irs)
  | idx (a i : Ir) | slc (a : Ir) (lo hi : Iro)
  | call (f : Str) (l : Irs) (ks : List Str) (kv : Irs)
  | blt (f : Bf) (l : Irs)
  | mth (m : Mf) (o : Ir) (l : Irs)
  | isi (a : Ir) (ts : List String)
  | lc (vs : List Nat) (t : Tg) (it : Itr) (ifs : Irs) (e : Ir)
inductive Irs where
  | nil | cons (a : Ir) (l : Irs)
inductive Iro where
  | non | som (a : Ir)
inductive Itr where
  | bad | e (a : Ir) | rng (l : Irs) | enum (a : Ir) | zip (a b : Ir)
end

/-- what is walked: values as they are, or a list as it stands at each turn -/
inductive Src where
  | snap (l : List D) | lst (n : Nat)
inductive It where
  | one (s : Src) | enum (s : Src) | zip (s t : Src)
def Src.now (M : Mem) : Src → Option (List D)
  | .snap l => some l
  | .lst n => listAt M n
def It.now (M : Mem) : It → Option (List D)
  | .one s => s.now M
  | .enum s => (s.now M).map fun l => l.mapIdx fun i d => .tup [.int (i : Nat), d]
  | .zip s t => match s.now M, t.now M with
    | some a, some b => some (List.zipWith (fun x y => .tup [x, y]) a b)
    | _, _ => none
/-- the item at the turn with k to come of N; the length must stand -/
def It.item (it : It) (M : Mem) (N k : Nat) : Option D := match it.now M with
  | some l => if l.length = N then l[N - k]? else none
  | none => none
def It.ends (it : It) (M : Mem) (N : Nat) : Bool := match it.now M with
  | some l => decide (l.length = N)
  | none => false
def srcOf (M : Mem) : D → Option Src
  | .tup l => some (.snap l)
  | .ref n => match listAt M n with
    | some _ => some (.lst n)
    | none => none
  | .fl l => some (.snap l)
  | _ => none
def rangeD (lo hi : Int) : List D := (List.range (hi - lo).toNat).map fun i => .int (lo + (i : Nat))
def wide62 (i : Int) : Bool := decide (-(2 ^ 62) ≤ i ∧ i < 2 ^ 62)
def rangeOf : List D → Option (List D)
  | [.int j] => if wide62 j then some (rangeD 0 j) else none
  | [.int i, .int j] => if wide62 i && wide62 j then some (rangeD i j) else none
  | _ => none

def bindT : Tg → D → S → Option S
  | .n i, d, σ => some (σ.set i (some d))
  | .t l, .tup ds, σ => if l.length = ds.length then some ((l.zip ds).foldl (fun s p => s.set p.1 (some p.2)) σ) else none
  | .t _, _, _ => none
def wipeS (σ : S) : List Nat → S
  | [] => σ
  | v :: vs => (wipeS σ vs).set v none

structure Gl where
  known : Str → Bool
  glob : Str → Option D
  call : Str → List D → List (Str × D) → Mem → Res D
  L : Nat

def tyNames : D → Mem → Option String
  | .non, _ => some "NoneType" | .bl _, _ => some "bool" | .int _, _ => some "int" | .str _, _ => some "str" | .tup _, _ => some "tuple"
  | .ref n, M => match M[n]? with
    | some (.lst _) => some "list"
    | some (.dct _) => some "dict"
    | none => none
  | .fl _, _ => some "list"
def isiD (M : Mem) (d : D) (t : String) : Option Bool := match tyNames d M with
  | some a => some (a == t || (a == "bool" && t == "int"))
  | none => none
def sumD : List D → Option Int
  | [] => some 0
  | .int i :: r => (sumD r).map (i + ·)
  | _ :: _ => none
def bfn (f : Bf) (l : List D) (M : Mem) : Res D := match f, l with
  | .len, [.tup x] => .ok (.int (x.length : Nat)) M
  | .len, [.str x] => if x.length ≤ sizeLine then .ok (.int (x.length : Nat)) M else .bad
  | .len, [.ref n] => match M[n]? with
    | some (.lst x) => .ok (.int (x.length : Nat)) M
    | some (.dct x) => .ok (.int (x.length : Nat)) M
    | none => .bad
  | .len, [.fl x] => .ok (.int (x.length : Nat)) M
  | .repr, [d] => match rd deep M d with
    | some p => if p.showable && decide (p.shown.length ≤ sizeLine) then .ok (.str p.shown) M else .bad
    | none => .bad
  | .tuple, [.tup x] => .ok (.tup x) M
  | .tuple, [d] => match lstOf M d with
    | some x => .ok (.tup x) M
    | none => .bad
  | .list, [.tup x] => .ok (.ref M.length) (M ++ [.lst x])
  | .list, [d] => match lstOf M d with
    | some x => .ok (.ref M.length) (M ++ [.lst x])
    | none => .bad
  | .tupleR, l => match rangeOf l with
    | some x => if x.length ≤ 1000 then .ok (.tup x) M else .bad
    | none => .bad
  | .listR, l => match rangeOf l with
    | some x => if x.length ≤ 1000 then .ok (.ref M.length) (M ++ [.lst x]) else .bad
    | none => .bad
  | .sum, [d] => match lstOf M d with
    | some x => Res.ofO ((sumD x).map .int) M
    | none => .bad
  | .min2, [.int a, .int b] => .ok (.int (min a b)) M
  | .max2, [.int a, .int b] => .ok (.int (max a b)) M
  | .abs, [.int a] => .ok (.int a.natAbs) M
  | _, _ => .bad
def mfn (f : Mf) (o : D) (l : List D) (M : Mem) : Res D := match o with
  | .ref n => match M[n]? with
    | some (.lst x) => match f, l with
      | .append, [d] => if x.length < sizeLine then .ok .non (M.set n (.lst (x ++ [d]))) else .bad
      | .pop, [] => match x.getLast? with
        | some d => .ok d (M.set n (.lst x.dropLast))
        | none => .bad
      | .popAt, [.int i] => if 0 ≤ i ∧ i < x.length ∧ i < 2 ^ 63 then match x[i.toNat]? with
        | some d => .ok d (M.set n (.lst (x.eraseIdx i.toNat)))
        | none => .bad
        else .bad
      | _, _ => .bad
    | _ => .bad
  | _ => .bad

def isL (M : Mem) : D → Bool
  | .ref n => match M[n]? with
    | some (.lst _) => true
    | _ => false
  | _ => false
/-- the walk of a comprehension: k turns to come of N -/
def lcGo (step : D → Mem → Res (Option D)) (it : It) (N r : Nat) : Nat → Mem → Res D
  | 0, M => if it.ends M N then .ok (.ref r) M else .bad
  | k + 1, M => match it.item M N (k + 1) with
    | none => .bad
    | some x => match step x M with
      | .ok none M1 => lcGo step it N r k M1
      | .ok (some y) M1 => match M1[r]? with
        | some (.lst acc) => if acc.length < sizeLine then lcGo step it N r k (M1.set r (.lst (acc ++ [y]))) else .bad
        | _ => .bad
      | _ => .bad
def dctOf (ks : List Str) (l : List D) : List (L2.Key × D) := (ks.zip l).foldl (fun a p => kput a (.inr p.1) p.2) []

section
variable (G : Gl)
mutual
def ev : Ir → S → Mem → Res D
  | .bad, _, _ => .bad
  | .c d, _, M => .ok d M
  | .v i, σ, M => match σ[i]? with
    | some (some d) => .ok d M
    | _ => .bad
  | .g x, _, M => Res.ofO (G.glob x) M
  | .bin o a b, σ, M => (ev a σ M).bind fun x M1 => (ev b σ M1).bind fun y M2 => bop o x y M2
  | .neg a, σ, M => (ev a σ M).bind fun x M1 => match x with
    | .int i => .ok (.int (-i)) M1
    | _ => .bad
  | .nt a, σ, M => (ev a σ M).bind fun x M1 => Res.ofO ((truth M1 x).map fun b => .bl (!b)) M1
  | .cmp o a b, σ, M => (ev a σ M).bind fun x M1 => (ev b σ M1).bind fun y M2 => Res.ofO ((cop o x y M2).map .bl) M2
  | .chn o p a b c, σ, M => (ev a σ M).bind fun x M1 => (ev b σ M1).bind fun y M2 => (Res.ofO (cop o x y M2) M2).bind fun k M2 =>
      if k = true then (ev c σ M2).bind fun z M3 => Res.ofO ((cop p y z M3).map .bl) M3 else .ok (.bl false) M2
  | .an a b, σ, M => (ev a σ M).bind fun x M1 => (Res.ofO (truth M1 x) M1).bind fun k M1 => if k = true then ev b σ M1 else .ok x M1
  | .orr a b, σ, M => (ev a σ M).bind fun x M1 => (Res.ofO (truth M1 x) M1).bind fun k M1 => if k = true then .ok x M1 else ev b σ M1
  | .ite c a b, σ, M => (ev c σ M).bind fun x M1 => (Res.ofO (truth M1 x) M1).bind fun k M1 => if k = true then ev a σ M1 else ev b σ M1
  | .tup l, σ, M => (evs l σ M).bind fun ds M1 => if ds.length ≤ sizeLine then .ok (.tup ds) M1 else .bad
  | .lst l, σ, M => (evs l σ M).bind fun ds M1 => if ds.length ≤ sizeLine then .ok (.ref M1.length) (M1 ++ [.lst ds]) else .bad
  | .dct ks l, σ, M => (evs l σ (M ++ [.dct []])).bind fun ds M1 => match M1[M.length]? with
    | some (.dct []) => if ds.length = ks.length ∧ ks.length ≤ 15 then .ok (.ref M.length) (M1.set M.length (.dct (dctOf ks ds))) else .bad
    | _ => .bad
  | .idx a i, σ, M => (ev a σ M).bind fun x M1 => (ev i σ M1).bind fun y M2 => Res.ofO (idxD x y M2) M2
  | .slc a lo hi, σ, M => (ev a σ M).bind fun x M1 => (evo lo σ M1).bind fun p M2 => (evo hi σ M2).bind fun q M3 => slcD x p q M3
  | .call f l ks kv, σ, M => if G.known f = false then .bad else (evs l σ M).bind fun ds M1 => (evs kv σ M1).bind fun es M2 => if es.length = ks.length then G.call f ds (ks.zip es) M2 else .bad
  | .blt f l, σ, M => (evs l σ M).bind fun ds M1 => bfn f ds M1
  | .mth m o l, σ, M => (ev o σ M).bind fun x M1 => if isL M1 x = true then (evs l σ M1).bind fun ds M2 => mfn m x ds M2 else .bad
  | .isi a ts, σ, M => (ev a σ M).bind fun x M1 => match mapO (isiD M1 x) ts with
    | some bs => .ok (.bl (bs.any id)) M1
    | none => .bad
  | .lc vs t it ifs e, σ, M => (evi it σ M).bind fun i M1 => match i.now M1 with
    | none => .bad
    | some l => lcGo (fun x M2 => match bindT t x (wipeS σ vs) with
        | none => .bad
        | some s => (evc ifs s M2).bind fun b M3 => if b = true then (ev e s M3).bind fun y M4 => .ok (some y) M4 else .ok none M3)
        i l.length M1.length l.length (M1 ++ [.lst []])
def evs : Irs → S → Mem → Res (List D)
  | .nil, _, M => .ok [] M
  | .cons a l, σ, M => (ev a σ M).bind fun x M1 => (evs l σ M1).bind fun xs M2 => .ok (x :: xs) M2
def evo : Iro → S → Mem → Res (Option Int)
  | .non, _, M => .ok none M
  | .som a, σ, M => (ev a σ M).bind fun x M1 => match x with
    | .int i => .ok (some i) M1
    | _ => .bad
/-- all tests hold -/
def evc : Irs → S → Mem → Res Bool
  | .nil, _, M => .ok true M
  | .cons a l, σ, M => (ev a σ M).bind fun x M1 => (Res.ofO (truth M1 x) M1).bind fun k M1 => if k = true then evc l σ M1 else .ok false M1
def evi : Itr → S → Mem → Res It
  | .bad, _, _ => .bad
  | .e a, σ, M => (ev a σ M).bind fun x M1 => Res.ofO ((srcOf M1 x).map .one) M1
  | .rng l, σ, M => (evs l σ M).bind fun ds M1 => Res.ofO ((rangeOf ds).map fun r => .one (.snap r)) M1
  | .enum a, σ, M => (ev a σ M).bind fun x M1 => Res.ofO ((srcOf M1 x).map .enum) M1
  | .zip a b, σ, M => (ev a σ M).bind fun x M1 => (ev b σ M1).bind fun y M2 => match srcOf M2 x, srcOf M2 y with
    | some s, some t => .ok (.zip s t) M2
    | _, _ => .bad
end
end

/-! ### statements -/
inductive Lhs where
  | t (t : Tg) | sub (o i : Ir)
mutual
inductive Sm where
  | bad | pas | brk | cnt | retN
  | ex (e : Ir) | set (t : Lhs) (e : Ir) | par (l : List Nat) (es : Irs) | aug (i : Nat) (op : Bop) (e : Ir) | augs (o i : Ir) (op : Bop) (e : Ir)
  | ret (e : Ir) | iff (c : Ir) (a b : Sms) | whl (c : Ir) (b : Sms) | fr (t : Tg) (it : Itr) (b : Sms)
  | raise (cls : Str) (l : Irs)
inductive Sms where
  | nil | cons (a : Sm) (l : Sms)
end
inductive Fl where
  | nx (σ : S) (M : Mem) | rt (d : D) (M : Mem) | bk (σ : S) (M : Mem) | ct (σ : S) (M : Mem) | exc (e : Exn) (σ : S) (M : Mem) | bad
def Res.fl {α : Type} (r : Res α) (σ : S) (f : α → Mem → Fl) : Fl := match r with
  | .ok a M => f a M
  | .exc e M => .exc e σ M
  | .bad => .bad
@[simp] theorem Res.fl_ok {α : Type} (a : α) (M : Mem) (σ : S) (f : α → Mem → Fl) : (Res.ok a M).fl σ f = f a M := rfl
@[simp] theorem Res.fl_exc {α : Type} (e : Exn) (M : Mem) (σ : S) (f : α → Mem → Fl) : (Res.exc e M : Res α).fl σ f = .exc e σ M := rfl
@[simp] theorem Res.fl_bad {α : Type} (σ : S) (f : α → Mem → Fl) : (Res.bad : Res α).fl σ f = .bad := rfl
/-- one statement, then the rest -/
def Fl.seq (r : Fl) (f : S → Mem → Fl) : Fl := match r with
  | .nx σ M => f σ M
  | r => r
/-- a op= b, for ints -/
def iop (o : Bop) (a b : D) (M : Mem) : Res D := match o, a, b with
  | .add, .int a, .int b => .ok (.int (a + b)) M
  | .sub, .int a, .int b => .ok (.int (a - b)) M
  | _, _, _ => .bad
def whGo (c : S → Mem → Res Bool) (b : S → Mem → Fl) : Nat → S → Mem → Fl
  | 0, _, _ => .bad
  | k + 1, σ, M => (c σ M).fl σ fun x M1 => if x = true then (match b σ M1 with
      | .nx σ2 M2 => whGo c b k σ2 M2
      | .ct σ2 M2 => whGo c b k σ2 M2
      | .bk σ2 M2 => .nx σ2 M2
      | r => r) else .nx σ M1
def frGo (g : D → S → Option S) (b : S → Mem → Fl) (it : It) (N : Nat) : Nat → S → Mem → Fl
  | 0, σ, M => if it.ends M N then .nx σ M else .bad
  | k + 1, σ, M => match it.item M N (k + 1) with
    | none => .bad
    | some x => match g x σ with
      | none => .bad
      | some σ1 => match b σ1 M with
        | .nx σ2 M2 => frGo g b it N k σ2 M2
        | .ct σ2 M2 => frGo g b it N k σ2 M2
        | .bk σ2 M2 => .nx σ2 M2
        | r => r
section
variable (G : Gl)
def tst (c : Ir) (σ : S) (M : Mem) : Res Bool := (ev G c σ M).bind fun x M1 => Res.ofO (truth M1 x) M1
mutual
def xs : Sm → S → Mem → Fl
  | .bad, _, _ => .bad
  | .pas, σ, M => .nx σ M
  | .brk, σ, M => .bk σ M
  | .cnt, σ, M => .ct σ M
  | .retN, _, M => .rt .non M
  | .ex e, σ, M => (ev G e σ M).fl σ fun _ M1 => .nx σ M1
  | .set (.t t) e, σ, M => (ev G e σ M).fl σ fun x M1 => match bindT t x σ with
    | some σ1 => .nx σ1 M1
    | none => .bad
  | .set (.sub o i) e, σ, M => (ev G e σ M).fl σ fun x M1 => (ev G o σ M1).fl σ fun a M2 => (ev G i σ M2).fl σ fun k M3 => match setD a k x M3 with
    | some M4 => .nx σ M4
    | none => .bad
  | .par l es, σ, M => (evs G es σ M).fl σ fun ds M1 => match bindT (.t l) (.tup ds) σ with
    | some σ1 => .nx σ1 M1
    | none => .bad
  | .aug i op e, σ, M => match σ[i]? with
    | some (some x) => (ev G e σ M).fl σ fun y M1 => (iop op x y M1).fl σ fun z M2 => .nx (σ.set i (some z)) M2
    | _ => .bad
  | .augs o i op e, σ, M => (ev G o σ M).fl σ fun a M1 => (ev G i σ M1).fl σ fun k M2 => (Res.ofO (idxD a k M2) M2).fl σ fun x M2 =>
      (ev G e σ M2).fl σ fun y M3 => (iop op x y M3).fl σ fun z M4 => match setD a k z M4 with
      | some M5 => .nx σ M5
      | none => .bad
  | .ret e, σ, M => (ev G e σ M).fl σ fun x M1 => .rt x M1
  | .iff c a b, σ, M => (tst G c σ M).fl σ fun x M1 => if x = true then xss a σ M1 else xss b σ M1
  | .whl c b, σ, M => whGo (tst G c) (xss b) G.L σ M
  | .fr t it b, σ, M => (evi G it σ M).fl σ fun i M1 => match i.now M1 with
    | none => .bad
    | some l => frGo (bindT t) (xss b) i l.length l.length σ M1
  | .raise c l, σ, M => .bad
def xss : Sms → S → Mem → Fl
  | .nil, σ, M => .nx σ M
  | .cons a l, σ, M => (xs a σ M).seq (xss l)
end
end

/-! ### defs -/
structure Fn where
  ps : List Str
  n : Nat
  body : Sms
def bindArg (ps : List Str) (ds : List D) (kw : List (Str × D)) : Option (List D) :=
  if ds.length + kw.length = ps.length ∧ (kw.map (·.1)).Nodup ∧ (∀ x ∈ kw.map (·.1), x ∈ ps.drop ds.length) then (mapO (fun p => kw.lookup p) (ps.drop ds.length)).map (ds ++ ·) else none
def startS (n : Nat) (ds : List D) : S := ds.map some ++ List.replicate (n - ds.length) none
def ran : Fl → Res D
  | .nx _ M => .ok .non M
  | .rt d M => .ok d M
  | .exc e _ M => .exc e M
  | _ => .bad
/-- the def called, k calls deep -/
def callF (glob : Str → Option D) (L : Nat) (fns : Str → Option Fn) : Nat → Str → List D → List (Str × D) → Mem → Res D
  | 0, _, _, _, _ => .bad
  | k + 1, f, ds, kw, M => match fns f with
    | none => .bad
    | some F => match bindArg F.ps ds kw with
      | none => .bad
      | some vs => ran (xss ⟨fun g => (fns g).isSome, glob, callF glob L fns k, L⟩ F.body (startS F.n vs) M)
end Mp

set_option Elab.async false
set_option linter.all false
set_option maxRecDepth 100000
set_option maxHeartbeats 4000000
set_option autoImplicit false
namespace Mp
open PySem

abbrev Names := List (Str × NameKind)
def vis (sc : Names) (x : Str) : Bool := match sc.lookup x with
  | some .local => true | some .cell => true | some .free => true
  | _ => false
def glo (sc : Names) (x : Str) : Bool := sc.lookup x == some .globalImplicit
def slotOf (N : List Str) (x : Str) : Option Nat := if N.idxOf x < N.length then some (N.idxOf x) else none
def bopOf : Operator → Option Bop
  | .Add => some .add | .Sub => some .sub | .Mult => some .mul | .FloorDiv => some .fdiv | .Mod => some .mod | .Pow => some .pow
  | _ => none
def copOf : CmpOp → Cop
  | .Eq => .eq | .NotEq => .ne | .Lt => .lt | .LtE => .le | .Gt => .gt | .GtE => .ge | .Is => .isq | .IsNot => .isn | .In => .isin | .NotIn => .notin
def bfOf (f : Str) (n : Nat) : Option Bf :=
  if f = "len" ∧ n = 1 then some .len else if f = "repr" ∧ n = 1 then some .repr else if f = "tuple" ∧ n = 1 then some .tuple
  else if f = "list" ∧ n = 1 then some .list else if f = "sum" ∧ n = 1 then some .sum else if f = "min" ∧ n = 2 then some .min2
  else if f = "max" ∧ n = 2 then some .max2 else if f = "abs" ∧ n = 1 then some .abs else none
def mfOf (f : Str) (n : Nat) : Option Mf :=
  if f = "append" ∧ n = 1 then some .append else if f = "pop" ∧ n = 0 then some .pop else if f = "pop" ∧ n = 1 then some .popAt
  else none
def typeName (x : Str) : Option String :=
  if x = "int" then some "int" else if x = "bool" then some "bool" else if x = "tuple" then some "tuple" else if x = "list" then some "list"
  else if x = "str" then some "str" else if x = "dict" then some "dict" else none
def irs : List Ir → Irs
  | [] => .nil
  | a :: l => .cons a (irs l)
def nameOf (sc : Names) (N : List Str) : Expr → Option Nat
  | .Name x _ => if vis sc x then slotOf N x else none
  | _ => none
/-- a name that is stored -/
def stob (sc : Names) (x : Str) : Bool := match sc.lookup x with
  | some .local => true | some .cell => true
  | _ => false
def stoOf (sc : Names) (N : List Str) : Expr → Option Nat
  | .Name x _ => if stob sc x then slotOf N x else none
  | _ => none
def tgOf (sc : Names) (N : List Str) : Expr → Option Tg
  | .Name x p => (stoOf sc N (.Name x p)).map .n
  | .Tuple es _ _ => (mapO (stoOf sc N) es).map .t
  | _ => none
def Tg.slots : Tg → List Nat
  | .n i => [i]
  | .t l => l
def strC : Expr → Option Str
  | .Constant (.str x) _ _ => some x
  | _ => none
def isRange (sc : Names) : Expr → Option (List Expr)
  | .Call (.Name f _) es [] _ => if f = "range" ∧ glo sc f = true ∧ (es.length = 1 ∨ es.length = 2) then some es else none
  | _ => none
def kwName : Keyword → Option Str
  | ⟨some x, _, _⟩ => some x
  | _ => none
def starred : Expr → Bool
  | .Starred .. => true
  | _ => false
/-- f(), which may be super() -/
def bareCall : Expr → Bool
  | .Call (.Name ..) [] [] _ => true
  | _ => false
def ownOf (scope : Scope) : List Str := (scope.names.filter fun p => p.2 == .local || p.2 == .cell).map (·.1)

/-- a block's names are told apart from the def's -/
def blkB (sc : Names) (scope : Scope) : Bool :=
  (match scope.kind with | .function => true | _ => false) && (scope.names.all fun y => decide (scope.names.lookup y.1 = some y.2)) &&
    (scope.names.all fun y => match y.2 with
      | .free => (match sc.lookup y.1 with | some .cell => true | some .free => true | _ => false)
      | _ => true)
def oddName (x : Str) : Bool := x == ("__debug__" : Str) || x == ("__classdict__" : Str) || x == ("__name__" : Str)
def isTupE : Expr → Bool
  | .Tuple .. => true
  | _ => false
def isSetE : Expr → Bool
  | .Set .. => true
  | _ => false
def isSliceE : Expr → Bool
  | .Slice .. => true
  | _ => false
section
variable (r : Expr → Ir) (sc : Names)
/-- tuple(range(..)), list(range(..)) -/
def cRg (b : Bf) (x : Expr) (rs : List Expr) : Ir := if starred x then .bad else match rs with
  | [a] => if starred a then .bad else .blt b (.cons (r a) .nil)
  | [a, c] => if starred a || starred c then .bad else .blt b (.cons (r a) (.cons (r c) .nil))
  | _ => .bad
def cIsi (es : List Expr) : Ir := match es with
  | [a, .Name t _] => if glo sc t && !starred a then (match typeName t with | some x => .isi (r a) [x] | none => .bad) else .bad
  | _ => .bad
def cOf (b : Bf) (br : Bf) (es : List Expr) : Ir := match es with
  | [x] => match isRange sc x with
    | some rs => cRg r br x rs
    | none => .blt b (irs (es.map r))
  | _ => .bad
def cCall (f : Str) (es : List Expr) : Ir :=
  if es.any starred || !glo sc f || oddName f then .bad
  else if f = "isinstance" then cIsi r sc es
  else match bfOf f es.length with
    | some .tuple => cOf r sc .tuple .tupleR es
    | some .list => cOf r sc .list .listR es
    | some b => .blt b (irs (es.map r))
    | none => .call f (irs (es.map r)) [] .nil
def cCallK (f : Str) (es : List Expr) (kws : List Keyword) : Ir :=
  if es.any starred || !glo sc f || oddName f then .bad
  else match mapO kwName kws with
    | some ks => .call f (irs (es.map r)) ks (irs (kws.map fun k => r k.value))
    | none => .bad
def cMth (o : Expr) (m : Str) (ap cp : Pos) (es : List Expr) : Ir :=
  if es.any starred || bareCall o || !(ap.endLine == cp.line) then .bad else match mfOf m es.length with
    | some f => .mth f (r o) (irs (es.map r))
    | none => .bad
def cPart : Option Expr → Iro
  | none => .non
  | some x => .som (r x)
def cSub (a i : Expr) : Ir := match i with
  | .Slice lo hi none _ => .slc (r a) (cPart r lo) (cPart r hi)
  | i => if isSliceE i || isTupE i then .bad else .idx (r a) (r i)
def cDct (ks : List (Option Expr)) (vs : List Expr) : Ir := match mapO (fun k => k.bind strC) ks with
  | some l => if l.length = vs.length ∧ l.length ≤ 15 then .dct l (irs (vs.map r)) else .bad
  | none => .bad
def cIter (tup : Bool) (e : Expr) : Itr := match e with
  | .Call (.Name f p) es [] q =>
    if glo sc f && f == "range" then (match es with
      | [a] => if starred a then .bad else .rng (.cons (r a) .nil)
      | [a, b] => if starred a || starred b then .bad else .rng (.cons (r a) (.cons (r b) .nil))
      | _ => .bad)
    else if glo sc f && f == "enumerate" then (match es with
      | [a] => if starred a || !tup then .bad else .enum (r a)
      | _ => .bad)
    else if glo sc f && f == "zip" then (match es with
      | [a, b] => if starred a || starred b || !tup then .bad else .zip (r a) (r b)
      | _ => .bad)
    else .e (r (.Call (.Name f p) es [] q))
  | e => if isSetE e then .bad else .e (r e)
end
def cLc (N : List Str) (sc : Names) (r : Names → Expr → Ir) (el tg it : Expr) (ifs : List Expr) (scope : Scope) : Ir :=
  match tgOf scope.names N tg, mapO (slotOf N) (ownOf scope) with
  | some t, some vs => if !blkB sc scope || !(t.slots.all fun i => vs.contains i) || decide (1 < ifs.length) || isSetE it then .bad
    else .lc vs t (cIter (r sc) sc (isTupE tg) it) (irs (ifs.map (r scope.names))) (r scope.names el)
  | _, _ => .bad
/-- an expression's translation; anything else is bad -/
def cE : Nat → List Str → Names → Expr → Ir
  | 0, _, _, _ => .bad
  | n + 1, N, sc, e => match e with
    | .Constant .none _ _ => .c .non
    | .Constant (.bool b) _ _ => .c (.bl b)
    | .Constant (.int i) _ _ => .c (.int i)
    | .Constant (.str x) _ _ => .c (.str x)
    | .Name x _ => if oddName x then .bad else if vis sc x then (match slotOf N x with | some i => .v i | none => .bad) else if glo sc x then .g x else .bad
    | .BinOp a o b _ => match bopOf o with
      | some p => .bin p (cE n N sc a) (cE n N sc b)
      | none => .bad
    | .UnaryOp .Not a _ => .nt (cE n N sc a)
    | .UnaryOp .USub a _ => .neg (cE n N sc a)
    | .BoolOp .And [a] _ => cE n N sc a
    | .BoolOp .Or [a] _ => cE n N sc a
    | .BoolOp .And (a :: b :: l) p => .an (cE n N sc a) (cE n N sc (.BoolOp .And (b :: l) p))
    | .BoolOp .Or (a :: b :: l) p => .orr (cE n N sc a) (cE n N sc (.BoolOp .Or (b :: l) p))
    | .IfExp c a b _ => .ite (cE n N sc c) (cE n N sc a) (cE n N sc b)
    | .Compare a [o] [b] _ => if behindInMarks o b = true then .bad else .cmp (copOf o) (cE n N sc a) (cE n N sc b)
    | .Compare a [o, p] [b, c] _ => if lastMarks [o, p] [b, c] = true then .bad else .chn (copOf o) (copOf p) (cE n N sc a) (cE n N sc b) (cE n N sc c)
    | .Tuple es _ _ => if es.any starred then .bad else .tup (irs (es.map (cE n N sc)))
    | .List es _ => if es.any starred then .bad else .lst (irs (es.map (cE n N sc)))
    | .Dict ks vs _ => cDct (cE n N sc) ks vs
    | .Subscript a i _ => cSub (cE n N sc) a i
    | .Call (.Name f _) es kws _ => if kws.isEmpty then cCall (cE n N sc) sc f es else cCallK (cE n N sc) sc f es kws
    | .Call (.Attribute o m ap) es kws cp => if kws.isEmpty then cMth (cE n N sc) o m ap cp es else .bad
    | .ListComp el [⟨tg, it, ifs, a⟩] scope _ => if a = 0 then cLc N sc (cE n N) el tg it ifs scope else .bad
    | _ => .bad

/-- what is stored where a tuple is written on both sides: from the right (some true), as one unpacks (some false), or not told -/
def locNames (sc : Names) (ts : List Expr) : List Str := ts.filterMap fun
  | .Name id pos => if sc.lookup id == some .local && pos.line == (ts.head?.map (·.pos.line)).getD 0 then some id else none
  | _ => none
def swapB (sc : Names) (ts vs : List Expr) : Option Bool :=
  if !(ts.length == 2 || ts.length == 3) || vs.length != ts.length then some false
  else if vs.any starred then some false
  else if (locNames sc ts).length != ts.length || (locNames sc ts).eraseDups.length != (locNames sc ts).length then some false
  else if vs.all (foldedForSure 8) then some false
  else if vs.all (constantsAlone 8) then none
  else some true
def isTupV : Expr → Option (List Expr)
  | .Tuple es _ _ => some es
  | _ => none
def isLCE : Expr → Bool
  | .ListComp .. | .SetComp .. | .DictComp .. => true
  | _ => false
def isSubE : Expr → Bool
  | .Subscript .. => true
  | _ => false
def sms : List Sm → Sms
  | [] => .nil
  | a :: l => .cons a (sms l)
section
variable (r : Expr → Ir) (sc : Names) (N : List Str)
def cAsg (tg e : Expr) : Sm := match tg with
  | .Name x p => match stoOf sc N (.Name x p) with
    | some i => .set (.t (.n i)) (r e)
    | none => .bad
  | .Tuple ts _ _ => match mapO (stoOf sc N) ts with
    | some l => match isTupV e with
      | some vs => match swapB sc ts vs with
        | some true => if vs.any starred = false then .set (.t (.t l)) (.tup (irs (vs.map r))) else .bad
        | some false => .set (.t (.t l)) (r e)
        | none => .bad
      | none => .set (.t (.t l)) (r e)
    | none => .bad
  | .Subscript o i _ => if isSliceE i || isTupE i || isLCE e then .bad else .set (.sub (r o) (r i)) (r e)
  | _ => .bad
def cAug (tg : Expr) (o : Operator) (e : Expr) : Sm := match tg with
  | .Name x p => match stoOf sc N (.Name x p), bopOf o with
    | some i, some b => if b = .add ∨ b = .sub then .aug i b (r e) else .bad
    | _, _ => .bad
  | .Subscript a i _ => match bopOf o with
    | some b => if (b = .add ∨ b = .sub) ∧ isSliceE i = false ∧ isTupE i = false then .augs (r a) (r i) b (r e) else .bad
    | none => .bad
  | _ => .bad
end
def cS : Nat → List Str → Names → Stmt → Sm
  | 0, _, _, _ => .bad
  | n + 1, N, sc, st => match st with
    | .Pass _ => .pas
    | .Break _ => .brk
    | .Continue _ => .cnt
    | .Return none _ => .retN
    | .Return (some e) _ => .ret (cE n N sc e)
    | .Expr e _ => if isLCE e then .bad else .ex (cE n N sc e)
    | .Assign ts e _ => match ts with
      | [tg] => cAsg (cE n N sc) sc N tg e
      | _ => .bad
    | .AugAssign tg o e _ => cAug (cE n N sc) sc N tg o e
    | .If c a b _ => .iff (cE n N sc c) (sms (a.map (cS n N sc))) (sms (b.map (cS n N sc)))
    | .While c b e _ => if e.isEmpty then .whl (cE n N sc c) (sms (b.map (cS n N sc))) else .bad
    | .For tg it b e _ => if e.isEmpty && !isSetE it then (match tgOf sc N tg with
      | some t => .fr t (cIter (cE n N sc) sc (isTupE tg) it) (sms (b.map (cS n N sc)))
      | none => .bad) else .bad
    | _ => .bad
end Mp

set_option Elab.async false
set_option linter.all false
set_option maxRecDepth 100000
set_option maxHeartbeats 4000000
set_option autoImplicit false
/-! The evaluator's store and the heap; readings made of the evaluator. -/
namespace Mp
open PySem PySem.Spec L2

section
variable (K : PySem.W.Frag)
/-- tuples and frozen things stay -/
def KT (H H' : Hp) : Prop := (∀ a xs, SqT K H a xs → SqT K H' a xs) ∧ ∀ a o u, H a = some (.frz o u) → H' a = some (.frz o u)
/-- a list that nobody writes: frozen, or the text's own -/
def FL (H : Hp) (a : Addr) (vs : List V) : Prop := (∃ o, H a = some (.frz o (.lst vs))) ∨ ∃ (its : List Value) (n : Nat), K.lookup a = some ({ cls := .type "list", data := .seq its.toArray n } : Obj) ∧ its.length ≤ sizeLine ∧ Vals vs its
def PX (ρ ρ' : List Addr) : Prop := ∀ (n : Nat) (a : Addr), ρ[n]? = some a → ρ'[n]? = some a
mutual
inductive RD (ρ : List Addr) (H : Hp) : D → V → Prop
  | non : RD ρ H .non .non
  | bl (b : Bool) : RD ρ H (.bl b) (.bl b)
  | int (i : Int) : RD ρ H (.int i) (.int i)
  | str (x : Str) : RD ρ H (.str x) (.str x)
  | tup {a : Addr} {vs : List V} {l : List D} : SqT K H a vs → RDs ρ H l vs → RD ρ H (.tup l) (.ref a)
  | ref {n : Nat} {a : Addr} : ρ[n]? = some a → RD ρ H (.ref n) (.ref a)
  | fl {a : Addr} {vs : List V} {l : List D} : FL K H a vs → RDs ρ H l vs → RD ρ H (.fl l) (.ref a)
inductive RDs (ρ : List Addr) (H : Hp) : List D → List V → Prop
  | nil : RDs ρ H [] []
  | cons {d : D} {v : V} {l : List D} {vs : List V} : RD ρ H d v → RDs ρ H l vs → RDs ρ H (d :: l) (v :: vs)
end
def MOk (ρ : List Addr) (H : Hp) (a : Addr) : MO → Prop
  | .lst l => ∃ vs, RDs K ρ H l vs ∧ H a = some (.lst vs)
  | .dct l => ∃ kvs : List (Key × V), l.map (·.1) = kvs.map (·.1) ∧ RDs K ρ H (l.map (·.2)) (kvs.map (·.2)) ∧ H a = some (.dK kvs)
structure Sim (ρ : List Addr) (M : Mem) (H : Hp) : Prop where
  len : ρ.length = M.length
  nd : ρ.Nodup
  ok : ∀ (n : Nat) (o : MO), M[n]? = some o → ∃ a, ρ[n]? = some a ∧ MOk K ρ H a o
/-- the slots -/
structure SL (ρ : List Addr) (H : Hp) (s : S) (σ : St) : Prop where
  len : s.length = σ.length
  get : ∀ (i : Nat) (d : D), s[i]? = some (some d) → ∃ v, σ[i]? = some (some v) ∧ RD K ρ H d v
end

section
variable {K : PySem.W.Frag} {ρ ρ' ρ1 : List Addr} {H H' H1 : Hp}
theorem KT.rfl' : KT K H H := ⟨fun _ _ h => h, fun _ _ _ h => h⟩
theorem KT.trans (a : KT K H H1) (b : KT K H1 H') : KT K H H' := ⟨fun c xs h => b.1 c xs (a.1 c xs h), fun c o u h => b.2 c o u (a.2 c o u h)⟩
theorem PX.rfl' : PX ρ ρ := fun _ _ h => h
theorem PX.trans (a : PX ρ ρ1) (b : PX ρ1 ρ') : PX ρ ρ' := fun n c h => b n c (a n c h)
theorem PX.push {a : Addr} : PX ρ (ρ ++ [a]) := fun n c h => by
  have hn : n < ρ.length := by
    rcases Nat.lt_or_ge n ρ.length with z | z
    · exact z
    · rw [List.getElem?_eq_none z] at h; cases h
  rw [List.getElem?_append_left hn]; exact h
theorem FL.mono {a : Addr} {vs : List V} (k : KT K H H') (h : FL K H a vs) : FL K H' a vs := h.imp (fun ⟨o, e⟩ => ⟨o, k.2 _ _ _ e⟩) fun e => e
theorem FL.sql {a : Addr} {vs : List V} (h : FL K H a vs) : SqL K H a vs := by
  rcases h with ⟨o, q⟩ | ⟨its, n, q, z, rv⟩
  · exact .inl (.inr ⟨o, q⟩)
  · exact .inr ⟨_, its.toArray, n, q, rfl, rfl, rfl, by simpa using z, by simpa using rv⟩
mutual
theorem RD.mono (k : KT K H H') (x : PX ρ ρ') : ∀ (d : D) (v : V), RD K ρ H d v → RD K ρ' H' d v
  | .non, _, h => by cases h; exact .non
  | .bl b, _, h => by cases h; exact .bl b
  | .int i, _, h => by cases h; exact .int i
  | .str s, _, h => by cases h; exact .str s
  | .tup l, _, h => by
    cases h with
    | tup hq hs => exact .tup (k.1 _ _ hq) (RDs.mono k x l _ hs)
  | .ref n, _, h => by
    cases h with
    | ref hr => exact .ref (x _ _ hr)
  | .fl l, _, h => by
    cases h with
    | fl hq hs => exact .fl (FL.mono k hq) (RDs.mono k x l _ hs)
theorem RDs.mono (k : KT K H H') (x : PX ρ ρ') : ∀ (l : List D) (vs : List V), RDs K ρ H l vs → RDs K ρ' H' l vs
  | [], _, h => by cases h; exact .nil
  | d :: l, _, h => by
    cases h with
    | cons h1 h2 => exact .cons (RD.mono k x d _ h1) (RDs.mono k x l _ h2)
end
theorem SL.mono {s : S} {σ : L2.St} (h : SL K ρ H s σ) (k : KT K H H') (x : PX ρ ρ') : SL K ρ' H' s σ := ⟨h.len, fun i d e => by
  obtain ⟨v, e1, r⟩ := h.get i d e
  exact ⟨v, e1, RD.mono k x _ _ r⟩⟩
theorem RDs.length : ∀ {l : List D} {vs : List V}, RDs K ρ H l vs → l.length = vs.length
  | [], _, h => by cases h; rfl
  | _ :: l, _, h => by
    cases h with
    | cons _ h2 => simp only [List.length_cons, RDs.length h2]
theorem RDs.get : ∀ {l : List D} {vs : List V} {i : Nat} {d : D}, RDs K ρ H l vs → l[i]? = some d → ∃ v, vs[i]? = some v ∧ RD K ρ H d v
  | [], _, i, _, h, e => by simp at e
  | a :: l, _, i, d, h, e => by
    cases h with
    | cons h1 h2 =>
      cases i with
      | zero => simp at e; subst e; exact ⟨_, rfl, h1⟩
      | succ i =>
        simp at e
        obtain ⟨v, e1, r⟩ := RDs.get h2 e
        exact ⟨v, by simpa using e1, r⟩
theorem RDs.get' : ∀ {l : List D} {vs : List V} {i : Nat} {v : V}, RDs K ρ H l vs → vs[i]? = some v → ∃ d, l[i]? = some d ∧ RD K ρ H d v
  | [], _, i, _, h, e => by cases h; simp at e
  | a :: l, _, i, v, h, e => by
    cases h with
    | cons h1 h2 =>
      cases i with
      | zero => simp at e; subst e; exact ⟨_, rfl, h1⟩
      | succ i =>
        simp at e
        obtain ⟨d, e1, r⟩ := RDs.get' h2 e
        exact ⟨d, by simpa using e1, r⟩
theorem RDs.append : ∀ {l m : List D} {vs ws : List V}, RDs K ρ H l vs → RDs K ρ H m ws → RDs K ρ H (l ++ m) (vs ++ ws)
  | [], _, _, _, h, g => by cases h; exact g
  | a :: l, _, _, _, h, g => by
    cases h with
    | cons h1 h2 => exact .cons h1 (RDs.append h2 g)
theorem RDs.take : ∀ {l : List D} {vs : List V} (n : Nat), RDs K ρ H l vs → RDs K ρ H (l.take n) (vs.take n)
  | [], _, n, h => by cases h; simp; exact .nil
  | a :: l, _, 0, h => by simp; exact .nil
  | a :: l, _, n + 1, h => by
    cases h with
    | cons h1 h2 => exact .cons h1 (RDs.take n h2)
theorem RDs.drop : ∀ {l : List D} {vs : List V} (n : Nat), RDs K ρ H l vs → RDs K ρ H (l.drop n) (vs.drop n)
  | [], _, n, h => by cases h; simp; exact .nil
  | a :: l, _, 0, h => by simpa using h
  | a :: l, _, n + 1, h => by
    cases h with
    | cons h1 h2 => simpa using RDs.drop n h2
theorem RDs.set {v : V} {d : D} (r : RD K ρ H d v) : ∀ {l : List D} {vs : List V} (n : Nat), RDs K ρ H l vs → RDs K ρ H (l.set n d) (vs.set n v)
  | [], _, n, h => by cases h; exact .nil
  | a :: l, _, 0, h => by
    cases h with
    | cons h1 h2 => exact .cons r h2
  | a :: l, _, n + 1, h => by
    cases h with
    | cons h1 h2 => exact .cons h1 (RDs.set r n h2)
theorem RDs.nil_iff {l : List D} {vs : List V} (h : RDs K ρ H l vs) : l.isEmpty = vs.isEmpty := by
  cases h <;> rfl
theorem RDs.ne_nil {l : List D} {vs : List V} (h : RDs K ρ H l vs) (n : l ≠ []) : vs ≠ [] := by
  cases h
  · exact absurd rfl n
  · simp

/-! ### new objects, written objects -/
theorem sqT_upd_new {a p : Addr} {o : HO} {xs : List V} (hp : H p = none) (h : SqT K H a xs) : SqT K (upd H p o) a xs := by
  rcases h with (h | ⟨u, h⟩) | h
  · exact .inl (.inl (by rw [upd_ne (ne_of_none h hp)]; exact h))
  · exact .inl (.inr ⟨u, by rw [upd_ne (ne_of_none h hp)]; exact h⟩)
  · exact .inr h
theorem KT.new {p : Addr} {o : HO} (hp : H p = none) : KT K H (upd H p o) :=
  ⟨fun a xs h => sqT_upd_new hp h, fun a u w h => by rw [upd_ne (ne_of_none h hp)]; exact h⟩
theorem KT.write {p : Addr} {o u : HO} (hp : H p = some u) (h1 : ∀ xs, u ≠ .tup xs) (h2 : ∀ o' w, u ≠ .frz o' w) : KT K H (upd H p o) := by
  refine ⟨fun a xs h => ?_, fun a v w h => ?_⟩
  · rcases h with (h | ⟨v, h⟩) | h
    · exact .inl (.inl (by rw [upd_ne (ne_of h hp (fun e => h1 _ e.symm))]; exact h))
    · exact .inl (.inr ⟨v, by rw [upd_ne (ne_of h hp (fun e => h2 _ _ e.symm))]; exact h⟩)
    · exact .inr h
  · rw [upd_ne (ne_of h hp (fun e => h2 _ _ e.symm))]; exact h
theorem MOk.mono (k : KT K H H') (x : PX ρ ρ') {a : Addr} {o : MO} (he : ∀ u, H a = some u → H' a = some u) (h : MOk K ρ H a o) : MOk K ρ' H' a o := by
  cases o with
  | lst l => obtain ⟨vs, r, e⟩ := h; exact ⟨vs, RDs.mono k x _ _ r, he _ e⟩
  | dct l => obtain ⟨kvs, e1, r, e⟩ := h; exact ⟨kvs, e1, RDs.mono k x _ _ r, he _ e⟩
theorem nodup_get {l : List Addr} (hN : l.Nodup) {i j : Nat} {x : Addr} (a : l[i]? = some x) (b : l[j]? = some x) : i = j := by
  obtain ⟨h1, e1⟩ := List.getElem?_eq_some_iff.mp a
  obtain ⟨h2, e2⟩ := List.getElem?_eq_some_iff.mp b
  exact (List.getElem_inj hN).mp (e1.trans e2.symm)
/-- what stands at a store's place is tracked -/
theorem MOk.there {a : Addr} {o : MO} (h : MOk K ρ H a o) : ∃ u, H a = some u := by
  cases o with
  | lst l => obtain ⟨vs, r, e⟩ := h; exact ⟨_, e⟩
  | dct l => obtain ⟨kvs, e1, r, e⟩ := h; exact ⟨_, e⟩
theorem listAt_some {M : Mem} {n : Nat} {l : List D} (h : listAt M n = some l) : M[n]? = some (.lst l) := by
  unfold listAt at h
  split at h
  · rename_i e; cases h; exact e
  · cases h
theorem get_lt {α : Type} {l : List α} {i : Nat} {x : α} (h : l[i]? = some x) : i < l.length := by
  rcases Nat.lt_or_ge i l.length with z | z
  · exact z
  · rw [List.getElem?_eq_none z] at h; cases h
theorem Sim.at {M : Mem} (s : Sim K ρ M H) {n : Nat} {o : MO} {a : Addr} (h : M[n]? = some o) (ha : ρ[n]? = some a) : MOk K ρ H a o := by
  obtain ⟨b, hb, q⟩ := s.ok n o h
  rw [ha] at hb; cases hb; exact q
theorem Sim.has {M : Mem} (s : Sim K ρ M H) {n : Nat} {a : Addr} (ha : ρ[n]? = some a) : ∃ o, M[n]? = some o ∧ MOk K ρ H a o := by
  have hn := get_lt ha
  rw [s.len] at hn
  exact ⟨M[n], List.getElem?_eq_getElem hn, s.at (List.getElem?_eq_getElem hn) ha⟩
/-- nothing of the store is new -/
theorem Sim.stay {M : Mem} (s : Sim K ρ M H) (k : KT K H H') (he : ∀ (a : Addr) (u : HO), a ∈ ρ → H a = some u → H' a = some u) : Sim K ρ M H' :=
  ⟨s.len, s.nd, fun n o h => by
    obtain ⟨a, ha, q⟩ := s.ok n o h
    exact ⟨a, ha, q.mono k PX.rfl' fun u e => he a u (List.mem_of_getElem? ha) e⟩⟩
theorem Sim.taken {M : Mem} (s : Sim K ρ M H) {p : Addr} (hp : H p = none) : p ∉ ρ := by
  intro hm
  obtain ⟨n, hn, e⟩ := List.getElem_of_mem hm
  obtain ⟨o, _, q⟩ := s.has (show ρ[n]? = some p by rw [List.getElem?_eq_getElem hn, e])
  obtain ⟨u, q⟩ := q.there
  rw [hp] at q; cases q
theorem Sim.list {M : Mem} (s : Sim K ρ M H) {n : Nat} {a : Addr} {l : List D} (h : listAt M n = some l) (ha : ρ[n]? = some a) : ∃ vs, RDs K ρ H l vs ∧ H a = some (.lst vs) := s.at (listAt_some h) ha
/-- a list's items, read -/
theorem Sim.items {M : Mem} (s : Sim K ρ M H) {d : D} {x : V} {l : List D} (h : lstOf M d = some l) (r : RD K ρ H d x) : ∃ a vs, x = .ref a ∧ RDs K ρ H l vs ∧ SqL K H a vs ∧ (H a = some (.lst vs) ∨ FL K H a vs) := by
  cases r with
  | ref ha =>
    obtain ⟨vs, r, q⟩ := s.list h ha
    exact ⟨_, vs, rfl, r, .of q, .inl q⟩
  | fl hq hs => cases h; exact ⟨_, _, rfl, hs, hq.sql, .inr hq⟩
  | _ => cases h
/-- an object that is laid, but not in the store (a tuple) -/
theorem Sim.lay {M : Mem} (s : Sim K ρ M H) {p : Addr} {o : HO} (hp : H p = none) : Sim K ρ M (upd H p o) :=
  s.stay (KT.new hp) fun a u _ e => by rw [upd_ne (ne_of_none e hp)]; exact e
/-- a new object of the store -/
theorem Sim.new {M : Mem} (s : Sim K ρ M H) {p : Addr} {o : HO} {m : MO} (hp : H p = none) (hm : MOk K (ρ ++ [p]) (upd H p o) p m) : Sim K (ρ ++ [p]) (M ++ [m]) (upd H p o) := by
  have hn := s.taken hp
  refine ⟨by simp [s.len], ?_, fun n q h => ?_⟩
  · rw [List.nodup_append]
    refine ⟨s.nd, by simp, fun a ha b hb => ?_⟩
    have e : b = p := by simpa using hb
    subst e
    rintro rfl
    exact hn ha
  · by_cases hl : n < M.length
    · rw [List.getElem?_append_left hl] at h
      obtain ⟨a, ha, r⟩ := s.ok n q h
      refine ⟨a, PX.push _ _ ha, r.mono (KT.new hp) PX.push fun u e => ?_⟩
      rw [upd_ne (ne_of_none e hp)]; exact e
    · have hn' := get_lt h
      simp at hn'
      have e : n = M.length := by omega
      subst e
      simp at h
      subst h
      refine ⟨p, ?_, hm⟩
      rw [← s.len]
      simp
/-- an object of the store is written -/
theorem Sim.write {M : Mem} (s : Sim K ρ M H) {n : Nat} {a : Addr} {o u : HO} {m : MO} (ha : ρ[n]? = some a) (hu : H a = some u) (h1 : ∀ xs, u ≠ .tup xs) (h2 : ∀ o' w, u ≠ .frz o' w) (hm : MOk K ρ (upd H a o) a m) : Sim K ρ (M.set n m) (upd H a o) := by
  refine ⟨by simp [s.len], s.nd, fun j q h => ?_⟩
  by_cases hj : n = j
  · subst hj
    have hl : n < M.length := by have := get_lt ha; rw [s.len] at this; exact this
    rw [List.getElem?_set_self hl] at h
    cases h
    exact ⟨a, ha, hm⟩
  · rw [List.getElem?_set_ne hj] at h
    obtain ⟨b, hb, r⟩ := s.ok j q h
    have hne : b ≠ a := by
      rintro rfl
      exact hj (nodup_get s.nd ha hb)
    refine ⟨b, hb, r.mono (KT.write hu h1 h2) PX.rfl' fun v e => ?_⟩
    rw [upd_ne hne]; exact e
end

/-! ### what is wanted of a result -/
/-- an exception: its class and fields, by the heap -/
abbrev XR := PySem.W.Frag → List Addr → Hp → Exn → Value → Option Addr → Prop
section
variable (K : PySem.W.Frag) (xr : XR) (W : WX)
def Rs {α : Type} (ρ : List Addr) (H : Hp) (σ : L2.St) (r : Res α) (k : α → Mem → List Addr → Hp → Prop) : Prop := match r with
  | .ok a M' => ∀ ρ' H', PX ρ ρ' → KT K H H' → Sim K ρ' M' H' → k a M' ρ' H'
  | .exc e M' => ∀ ρ' H' cls dd, PX ρ ρ' → KT K H H' → Sim K ρ' M' H' → xr K ρ' H' e cls dd → W cls dd σ H'
  | .bad => False
/-- an expression's reading -/
def tE (r : S → Mem → Res D) : TE := fun σ H Q => ∃ ρ s M, Sim K ρ M H ∧ SL K ρ H s σ ∧ Rs K xr W ρ H σ (r s M) fun d _ ρ' H' => ∀ v, RD K ρ' H' d v → Q v H'
def tT (r : S → Mem → Res Bool) : TT := fun σ H Q => ∃ ρ s M, Sim K ρ M H ∧ SL K ρ H s σ ∧ Rs K xr W ρ H σ (r s M) fun b _ _ H' => Q b H'
def tL (r : S → Mem → Res (List D)) : TA := fun σ H Q => ∃ ρ s M, Sim K ρ M H ∧ SL K ρ H s σ ∧ Rs K xr W ρ H σ (r s M) fun l _ ρ' H' => ∀ vs, RDs K ρ' H' l vs → Q vs H'
/-- an operation's, by values; it raises nothing -/
def rD (g : D → D → Mem → Res D) : R2 := fun x y H Q => ∃ ρ M d e, Sim K ρ M H ∧ RD K ρ H d x ∧ RD K ρ H e y ∧ Rs K xr (fun _ _ _ _ => False) ρ H [] (g d e M) fun z _ ρ' H' => ∀ v, RD K ρ' H' z v → Q v H'
def rDs (g : List D → Mem → Res D) : List V → Hp → VK → Prop := fun xs H Q => ∃ ρ M ds, Sim K ρ M H ∧ RDs K ρ H ds xs ∧ Rs K xr (fun _ _ _ _ => False) ρ H [] (g ds M) fun z _ ρ' H' => ∀ v, RD K ρ' H' z v → Q v H'
end
section
variable {K : PySem.W.Frag} {xr : XR} {W : WX} {ρ : List Addr} {H : Hp} {σ : L2.St}
theorem Rs.imp {α : Type} {r : Res α} {k k' : α → Mem → List Addr → Hp → Prop} (h : Rs K xr W ρ H σ r k) (f : ∀ a M' ρ' H', PX ρ ρ' → KT K H H' → Sim K ρ' M' H' → k a M' ρ' H' → k' a M' ρ' H') : Rs K xr W ρ H σ r k' := by
  cases r with
  | ok a M' => exact fun ρ' H' x kt s => f a M' ρ' H' x kt s (h ρ' H' x kt s)
  | exc e M' => exact h
  | bad => exact h
theorem Rs.bind {α β : Type} {r : Res α} {f : α → Mem → Res β} {k : β → Mem → List Addr → Hp → Prop} (h : Rs K xr W ρ H σ (r.bind f) k) : Rs K xr W ρ H σ r fun a M1 ρ1 H1 => Rs K xr W ρ1 H1 σ (f a M1) k := by
  cases r with
  | ok a M1 =>
    intro ρ1 H1 x1 k1 s1
    rw [Res.bind_ok] at h
    cases hf : f a M1 with
    | ok b M2 => rw [hf] at h; exact fun ρ2 H2 x2 k2 s2 => h ρ2 H2 (x1.trans x2) (k1.trans k2) s2
    | exc e M2 => rw [hf] at h; exact fun ρ2 H2 c dd x2 k2 s2 q => h ρ2 H2 c dd (x1.trans x2) (k1.trans k2) s2 q
    | bad => rw [hf] at h; exact h
  | exc e M1 => exact h
  | bad => exact h
/-- now -/
theorem Rs.now {α : Type} {a : α} {M : Mem} {k : α → Mem → List Addr → Hp → Prop} (h : Rs K xr W ρ H σ (.ok a M) k) (s : Sim K ρ M H) : k a M ρ H := h ρ H PX.rfl' KT.rfl' s
theorem Rs.later {α : Type} {r : Res α} {k : α → Mem → List Addr → Hp → Prop} {ρ1 : List Addr} {H1 : Hp} (h : Rs K xr W ρ H σ r k) (x : PX ρ ρ1) (kt : KT K H H1) : Rs K xr W ρ1 H1 σ r k := by
  cases r with
  | ok a M' => exact fun ρ' H' x' k' s => h ρ' H' (x.trans x') (kt.trans k') s
  | exc e M' => exact fun ρ' H' c dd x' k' s q => h ρ' H' c dd (x.trans x') (kt.trans k') s q
  | bad => exact h
theorem Rs.quiet {α : Type} {r : Res α} {k : α → Mem → List Addr → Hp → Prop} {W' : WX} {σ' : L2.St} (h : Rs K xr W ρ H σ r k) (hx : ∀ e M, r ≠ .exc e M) : Rs K xr W' ρ H σ' r k := by
  cases r with
  | ok a M' => exact h
  | exc e M' => exact absurd rfl (hx e M')
  | bad => exact h
theorem Rs.ofO {α β : Type} {o : Option α} {g : α → β} {M : Mem} {k : β → Mem → List Addr → Hp → Prop} (h : Rs K xr W ρ H σ (Res.ofO (o.map g) M) k) (s : Sim K ρ M H) : ∃ a, o = some a ∧ k (g a) M ρ H := by
  cases o with
  | none => exact h.elim
  | some a => exact ⟨a, rfl, h ρ H PX.rfl' KT.rfl' s⟩
theorem Rs.ofO' {α : Type} {o : Option α} {M : Mem} {k : α → Mem → List Addr → Hp → Prop} (h : Rs K xr W ρ H σ (Res.ofO o M) k) (s : Sim K ρ M H) : ∃ a, o = some a ∧ k a M ρ H := by
  cases o with
  | none => exact h.elim
  | some a => exact ⟨a, rfl, h ρ H PX.rfl' KT.rfl' s⟩
theorem peM {X : Cx} {e : Expr} {t t' : TE} (h : PE X e t) (f : ∀ σ H Q, t' σ H Q → t σ H Q) : PE X e t' := ⟨fun pins s σ H Q I q => h.run pins s σ H Q I (f σ H Q q)⟩
theorem ptM {X : Cx} {e : Expr} {t t' : TT} (h : PT X e t) (f : ∀ σ H Q, t' σ H Q → t σ H Q) : PT X e t' := ⟨fun pins s σ H Q I q => h.run pins s σ H Q I (f σ H Q q)⟩
theorem pwM {X : Cx} {e : Expr} {t t' : TT} (h : PW X e t) (f : ∀ σ H Q, t' σ H Q → t σ H Q) : PW X e t' := ⟨fun wh pins s σ H Q I q => h.run wh pins s σ H Q I (f σ H Q q)⟩
theorem paM {X : Cx} {es : List Expr} {t t' : TA} (h : PA X es t) (f : ∀ σ H Q, t' σ H Q → t σ H Q) : PA X es t' := ⟨fun pos pins s σ H Q I q => h.run pos pins s σ H Q I (f σ H Q q)⟩
theorem psM {X : Cx} {st : Stmt} {t t' : TS} (h : PS X st t) (f : ∀ D σ H, t' D σ H → t D σ H) : PS X st t' := ⟨fun pins s σ H D I q => h.run pins s σ H D I (f D σ H q)⟩
theorem pssM {X : Cx} {st : List Stmt} {t t' : TS} (h : PSs X st t) (f : ∀ D σ H, t' D σ H → t D σ H) : PSs X st t' := ⟨fun pins s σ H D I q => h.run pins s σ H D I (f D σ H q)⟩
theorem opM {X : Cx} {f : Value → Value → Sem Value} {r r' : R2} (h : OpR X f r) (g : ∀ x y H Q, r' x y H Q → r x y H Q) : OpR X f r' := fun pins s σ H x y v u Q I rx ry q => h pins s σ H x y v u Q I rx ry (g x y H Q q)
theorem crM {X : Cx} {f : Value} {r r' : List V → Hp → VK → Prop} (h : CallR X f r) (g : ∀ xs H Q, r' xs H Q → r xs H Q) : CallR X f r' := fun pins s σ H xs us Q I rx q => h pins s σ H xs us Q I rx (g xs H Q q)
theorem pe_bad {X : Cx} {e : Expr} : PE X e (tE K xr W fun _ _ => .bad) := ⟨fun _ _ _ _ _ _ h => by
  obtain ⟨_, _, _, _, _, h⟩ := h
  exact h.elim⟩
/-- two in a row, then an operation -/
theorem pe_bin {X : Cx} {e : Expr} {f g : S → Mem → Res D} {o : D → D → Mem → Res D} (ho : ∀ x y M e M', o x y M ≠ .exc e M')
    (h : PE X e (tOp (rD K xr o) (tE K xr W f) (tE K xr W g))) : PE X e (tE K xr W fun s M => (f s M).bind fun x M1 => (g s M1).bind fun y M2 => o x y M2) := by
  refine peM h fun σ H Q => ?_
  rintro ⟨ρ, s, M, sim, sl, h⟩
  refine ⟨ρ, s, M, sim, sl, Rs.imp (Rs.bind h) fun x M1 ρ1 H1 x1 k1 s1 h1 xv rx => ?_⟩
  refine ⟨ρ1, s, M1, s1, sl.mono k1 x1, Rs.imp (Rs.bind h1) fun y M2 ρ2 H2 x2 k2 s2 h2 yv ry => ?_⟩
  exact ⟨ρ2, M2, x, y, s2, RD.mono k2 x2 _ _ rx, ry, h2.quiet fun e M' => ho x y M2 e M'⟩
end
end Mp

set_option Elab.async false
set_option linter.all false
set_option maxRecDepth 100000
set_option maxHeartbeats 4000000
set_option autoImplicit false
/-! Operators and comparisons: the evaluator's word is the machine's. -/
namespace Mp
open PySem PySem.Spec L2

theorem bop_nx (o : Bop) (x y : D) (M : Mem) (e : Exn) (M' : Mem) : bop o x y M ≠ .exc e M' := by
  intro h
  cases o <;> simp only [bop] at h
  all_goals first | unfold addD at h | unfold subD at h | unfold mulD at h | unfold fdivD at h | unfold modD at h | unfold powD at h
  all_goals repeat' (first | (cases h; done) | split at h)
theorem ofO_nx {α : Type} (o : Option α) (M : Mem) (e : Exn) (M' : Mem) : Res.ofO o M ≠ .exc e M' := by
  cases o <;> intro h <;> cases h

section
variable {K : PySem.W.Frag} {xr : XR} {ρ : List Addr} {H : Hp}
/-- how what is made anew is told -/
theorem Rs.newTup {W : WX} {σ : L2.St} {M : Mem} {l : List D} {vs : List V} {Q : VK} (sim : Sim K ρ M H) (h : Rs K xr W ρ H σ (.ok (.tup l) M) fun z _ ρ' H' => ∀ v, RD K ρ' H' z v → Q v H') (rl : RDs K ρ H l vs) :
    ∀ p, H p = none → Q (.ref p) (upd H p (.tup vs)) := fun p hp =>
  h ρ (upd H p (.tup vs)) PX.rfl' (KT.new hp) (sim.lay hp) _ (.tup (SqT.of upd_same) (RDs.mono (KT.new hp) PX.rfl' _ _ rl))
/-- a new list of the store -/
theorem Rs.newLst {W : WX} {σ : L2.St} {M : Mem} {l : List D} {vs : List V} {Q : VK} (sim : Sim K ρ M H) (h : Rs K xr W ρ H σ (.ok (.ref M.length) (M ++ [.lst l])) fun z _ ρ' H' => ∀ v, RD K ρ' H' z v → Q v H') (rl : RDs K ρ H l vs) :
    ∀ p, H p = none → Q (.ref p) (upd H p (.lst vs)) := fun p hp => by
  have kt : KT K H (upd H p (.lst vs)) := KT.new hp
  refine h (ρ ++ [p]) (upd H p (.lst vs)) PX.push kt (sim.new hp ⟨vs, RDs.mono kt PX.push _ _ rl, upd_same⟩) _ (.ref ?_)
  rw [← sim.len]
  simp
theorem mapO_len {α β : Type} {g : α → Option β} : ∀ {l : List α} {r : List β}, mapO g l = some r → r.length = l.length
  | [], _, h => by cases h; rfl
  | a :: l, r, h => by
    unfold mapO at h
    split at h
    · rename_i b s e1 e2
      cases h
      simp [mapO_len e2]
    · cases h
/-- data of the store is data of the heap -/
theorem dp_of {M : Mem} (sim : Sim K ρ M H) : ∀ (k : Nat) (d : D) (v : V) (p : PyData), rd k M d = some p → RD K ρ H d v → Dp K H v p
  | 0, _, _, _, h, _ => by cases h
  | k + 1, d, v, p, h, r => by
    have all : ∀ (l : List D) (vs : List V) (ps : List PyData), mapO (rd k M) l = some ps → RDs K ρ H l vs → DpAll K H vs ps := by
      intro l
      induction l with
      | nil => intro vs ps e r; cases r; cases e; exact .nil
      | cons a l ih =>
        intro vs ps e r
        unfold mapO at e
        split at e
        · rename_i b s e1 e2
          cases e
          cases r with
          | cons r1 r2 => exact .cons (dp_of sim k a _ _ e1 r1) (ih _ _ e2 r2)
        · cases e
    unfold rd at h
    cases r with
    | non => cases h; exact .non
    | bl b => cases h; exact .bl b
    | int i => cases h; exact .int i
    | str x => cases h; exact .str x
    | tup hq hs =>
      simp only [Option.map_eq_some_iff] at h
      obtain ⟨ps, e, rfl⟩ := h
      exact .tup hq (all _ _ _ e hs)
    | ref ha =>
      rename_i n a
      simp only at h
      split at h
      · rename_i l e
        simp only [Option.map_eq_some_iff] at h
        obtain ⟨ps, e2, rfl⟩ := h
        obtain ⟨vs, rs, q⟩ := sim.list e ha
        exact .lst (.of q) (all _ _ _ e2 rs)
      · cases h
    | fl hq hs =>
      simp only [Option.map_eq_some_iff] at h
      obtain ⟨ps, e, rfl⟩ := h
      exact .lst hq.sql (all _ _ _ e hs)
end

section
variable {X : Cx} {xr : XR}
abbrev rB (X : Cx) (xr : XR) (p : Bop) : R2 := rD X.K xr (bop p)
theorem isl_of {pins : List (Addr × Obj)} {σ : L2.St} {H : Hp} {s : Shared} {a : Addr} {vs : List V} (I : Inv X pins σ H s) (h : H a = some (.lst vs) ∨ FL X.K H a vs) :
    ∃ (its : List Value) (n : Nat), Vals vs its ∧ PySem.IsL s.heap a its.toArray n ∧ its.length ≤ sizeLine := by
  rcases h with h | ⟨o, h⟩ | ⟨its, n, h, z, r⟩
  · obtain ⟨z, its, n, r, e, q⟩ := I.lstM h
    exact ⟨its, n, r, q, by omega⟩
  · obtain ⟨e1, e2⟩ := I.hok a _ h
    obtain ⟨z, its, n, r, q⟩ : vs.length ≤ sizeLine ∧ ∃ (its : List Value) (n : Nat), Vals vs its ∧ s.heap.get? a = some ({ cls := .type "list", data := .seq its.toArray n } : Obj) := e2
    exact ⟨its, n, r, q, by rw [← r.length]; exact z⟩
  · exact ⟨its, n, r, I.kIn a _ h, z⟩
theorem o_cat : OpR X (binaryOp .Add) (fun x y H Q => ∃ l b xs zs, x = .ref l ∧ y = .ref b ∧ (H l = some (.lst xs) ∨ FL X.K H l xs) ∧ (H b = some (.lst zs) ∨ FL X.K H b zs) ∧ xs.length + zs.length ≤ sizeLine ∧ ∀ p, H p = none → Q (.ref p) (upd H p (.lst (xs ++ zs)))) := by
  intro pins s σ H x y v u Q I rx ry h
  obtain ⟨l, b, xs, zs, rfl, rfl, h1, h2, hz, q⟩ := h
  cases rx
  cases ry
  obtain ⟨its, n, r, e, z1⟩ := isl_of I h1
  obtain ⟨its2, n2, r2, e2, z2⟩ := isl_of I h2
  have l1 := r.length
  have l2 := r2.length
  refine PySem.P.add_list e e2 ?_ (by rw [List.size_toArray, List.size_toArray]; omega)
  rw [show its.toArray ++ its2.toArray = (its ++ its2).toArray by simp]
  exact ⟨.ref _, _, I.lnew (t' := s.toks) (r.append r2) (by rw [List.length_append]; omega), rfl, q _ I.fresh⟩
theorem o_add : OpR X (binaryOp .Add) (rB X xr .add) := by
  intro pins s σ H x y v u Q I rx ry h
  obtain ⟨ρ, M, d, e, sim, rd', re, h⟩ := h
  change Rs _ _ _ _ _ _ (addD d e M) _ at h
  unfold addD at h
  split at h
  · cases rd'; cases re
    exact op_add pins s σ H _ _ v u Q I rx ry ⟨_, _, rfl, rfl, h.now sim _ (.int _)⟩
  · rename_i a b
    cases rd'; cases re
    split at h
    · rename_i hz
      exact op_add_str pins s σ H _ _ v u Q I rx ry ⟨_, _, rfl, rfl, hz, h.now sim _ (.str _)⟩
    · exact h.elim
  · rename_i a b
    split at h
    · rename_i hz
      cases rd' with
      | tup hq hs =>
        cases re with
        | tup hq2 hs2 =>
          have z1 := hs.length
          have z2 := hs2.length
          refine op_catA pins s σ H _ _ v u Q I rx ry ⟨_, _, _, _, rfl, rfl, hq, hq2, by omega, fun e => ?_, fun _ e => ?_, fun _ _ => Rs.newTup sim h (hs.append hs2)⟩
          · subst e
            cases hs
            exact h.now sim _ (.tup hq2 hs2)
          · subst e
            cases hs2
            rw [List.append_nil] at h
            exact h.now sim _ (.tup hq hs)
    · exact h.elim
  · split at h
    · rename_i x' y' e1 e2
      split at h
      · rename_i hz
        obtain ⟨a, vs, rfl, r1, _, w1⟩ := sim.items e1 rd'
        obtain ⟨b, ws, rfl, r2, _, w2⟩ := sim.items e2 re
        have z1 := r1.length
        have z2 := r2.length
        exact o_cat pins s σ H _ _ v u Q I rx ry ⟨a, b, vs, ws, rfl, rfl, w1, w2, by omega, Rs.newLst sim h (r1.append r2)⟩
      · exact h.elim
    · exact h.elim
theorem o_sub : OpR X (binaryOp .Sub) (rB X xr .sub) := by
  intro pins s σ H x y v u Q I rx ry h
  obtain ⟨ρ, M, d, e, sim, rd', re, h⟩ := h
  change Rs _ _ _ _ _ _ (subD d e M) _ at h
  unfold subD at h
  split at h
  · cases rd'; cases re
    exact op_sub pins s σ H _ _ v u Q I rx ry ⟨_, _, rfl, rfl, h.now sim _ (.int _)⟩
  · exact h.elim
theorem o_mod : OpR X (binaryOp .Mod) (rB X xr .mod) := by
  intro pins s σ H x y v u Q I rx ry h
  obtain ⟨ρ, M, d, e, sim, rd', re, h⟩ := h
  change Rs _ _ _ _ _ _ (modD d e M) _ at h
  unfold modD at h
  split at h
  · cases rd'; cases re
    split at h
    · rename_i hz
      exact op_mod pins s σ H _ _ v u Q I rx ry ⟨_, _, rfl, rfl, hz, h.now sim _ (.int _)⟩
    · exact h.elim
  · exact h.elim
theorem o_fdiv : OpR X (binaryOp .FloorDiv) (rB X xr .fdiv) := by
  intro pins s σ H x y v u Q I rx ry h
  obtain ⟨ρ, M, d, e, sim, rd', re, h⟩ := h
  change Rs _ _ _ _ _ _ (fdivD d e M) _ at h
  unfold fdivD at h
  split at h
  · cases rd'; cases re
    split at h
    · rename_i hz
      exact op_fdivW pins s σ H _ _ v u Q I rx ry ⟨_, _, rfl, rfl, hz, h.now sim _ (.int _)⟩
    · exact h.elim
  · exact h.elim
theorem o_pow : OpR X (binaryOp .Pow) (rB X xr .pow) := by
  intro pins s σ H x y v u Q I rx ry h
  obtain ⟨ρ, M, d, e, sim, rd', re, h⟩ := h
  change Rs _ _ _ _ _ _ (powD d e M) _ at h
  unfold powD at h
  split at h
  · cases rd'; cases re
    split at h
    · rename_i hz
      exact op_pow pins s σ H _ _ v u Q I rx ry ⟨_, _, rfl, rfl, hz, h.now sim _ (.int _)⟩
    · exact h.elim
  · exact h.elim
/-- a tuple once is itself -/
theorem once_tuple (p : Addr) (its : Array Value) (k : Nat) (di : Option Addr) (ss : Array (Option Value)) (tk1 : Tok) :
    Meets (Builtin.«tuple.__mul__» ⟨[.ref p, .int 1 tk1], []⟩) (fun _ R st => st.heap.get? p = some { cls := .type "tuple", dict := di, data := .seq its k, slots := ss } ∧ R (.ok (.ret (Value.ref p))) st) :=
  .of_wp fun prog w A R st hh => by
    obtain ⟨hp, g, dr, tks, os⟩ := st
    obtain ⟨hl, hh⟩ := hh
    have f1 := AutoSeq1.idx_int
    have e1 : (its.isEmpty || (1 : Int) == 1) = true := by cases its.isEmpty <;> rfl
    wp_walk using wpAny_loadPart' hl
    repeat (first
      | (refine wpAny_ite_false (by decide) ?_; wp_walk using wpAny_loadPart' hl)
      | (refine wpAny_ite_true (by rw [e1]) ?_; wp_walk using wpAny_loadPart' hl))
    exact ⟨_, rfl, hh⟩
theorem o_mulI : OpR X (binaryOp .Mult) (fun x y H Q => ∃ i j, x = .int i ∧ y = .int j ∧ mulOk i j = true ∧ Q (.int (i * j)) H) := by
  intro pins s σ H x y v u Q I rx ry h
  obtain ⟨i, j, rfl, rfl, hm, q⟩ := h
  unfold mulOk at hm
  rcases of_decide_eq_true hm with z | z | z
  · exact op_mul pins s σ H _ _ v u Q I rx ry ⟨_, _, rfl, rfl, .inl z, q⟩
  · exact op_mul pins s σ H _ _ v u Q I rx ry ⟨_, _, rfl, rfl, .inr z, q⟩
  · exact op_mulW pins s σ H _ _ v u Q I rx ry ⟨_, _, rfl, rfl, z, q⟩
theorem o_once : OpR X (binaryOp .Mult) (fun x y H Q => ∃ l xs, x = .ref l ∧ y = .int 1 ∧ SqT X.K H l xs ∧ Q (.ref l) H) := by
  intro pins s σ H x y v u Q I rx ry h
  obtain ⟨p, xs, rfl, rfl, hT, q⟩ := h
  cases rx
  obtain ⟨t, rfl⟩ := ry
  obtain ⟨its, r, ⟨⟨cl, di, da, ss⟩, ho, hcl, k, hda⟩, hz⟩ := I.tuple hT
  simp only at hcl hda
  subst hcl hda
  exact wpAny_binaryOp_repeat_ref (T := "tuple") (U := "int") (by decide) ⟨_, ho, rfl⟩ (fun s' => typeIs_int s' 1 t) noFill_tuple_mul F.fills_int_mul F.slot_int_rmul repeat_tuple F.slot_int_index.lookup
    (call_meets F.slot_int_rmul (typeIs_int s 1 t) F.entry_int_rmul (F.args_int_rmul_2 _ _) (int_rmul_tuple 1 t p its.toArray k di ss)
      ⟨ho, rfl, ⟨_, ho, rfl⟩, call_meets F.slot_tuple_mul ⟨_, ho, rfl⟩ F.entry_tuple_mul (F.args_tuple_mul_2 _ _) (once_tuple p its.toArray k di ss t) ⟨ho, ⟨.ref p, H, I, rfl, q⟩⟩⟩)
theorem rds_rep {K : PySem.W.Frag} {ρ : List Addr} {H : Hp} {l : List D} {vs : List V} (r : RDs K ρ H l vs) : ∀ k : Nat, RDs K ρ H (List.replicate k l).flatten (List.replicate k vs).flatten
  | 0 => .nil
  | k + 1 => by
    rw [List.replicate_succ, List.replicate_succ, List.flatten_cons, List.flatten_cons]
    exact r.append (rds_rep r k)
theorem o_mul : OpR X (binaryOp .Mult) (rB X xr .mul) := by
  intro pins s σ H x y v u Q I rx ry h
  obtain ⟨ρ, M, d, e, sim, rd', re, h⟩ := h
  change Rs _ _ _ _ _ _ (mulD d e M) _ at h
  unfold mulD at h
  split at h
  · cases rd'; cases re
    split at h
    · rename_i hz
      exact o_mulI pins s σ H _ _ v u Q I rx ry ⟨_, _, rfl, rfl, hz, h.now sim _ (.int _)⟩
    · exact h.elim
  · rename_i l k
    split at h
    · rename_i hz
      obtain ⟨hne, h1, h2, h3⟩ := hz
      cases re
      cases rd' with
      | tup hq hs =>
        have z1 := hs.length
        by_cases hk : k = 1
        · subst hk
          have e1 : (List.replicate (Int.toNat 1) l).flatten = l := by simp
          rw [e1] at h
          exact o_once pins s σ H _ _ v u Q I rx ry ⟨_, _, rfl, rfl, hq, h.now sim _ (.tup hq hs)⟩
        · exact op_repT pins s σ H _ _ v u Q I rx ry ⟨_, _, _, rfl, rfl, hq, hs.ne_nil hne, by omega, h2, by omega, Rs.newTup sim h (rds_rep hs _)⟩
    · exact h.elim
  · rename_i a k
    split at h
    · rename_i x' e1
      split at h
      · rename_i hz
        obtain ⟨h1, h2, h3⟩ := hz
        cases re
        cases rd' with
        | ref ha =>
          obtain ⟨vs, rs, q⟩ := sim.list e1 ha
          have z1 := rs.length
          refine op_rep pins s σ H _ _ v u Q I rx ry ⟨_, _, _, rfl, rfl, q, by omega, by omega, ?_, Rs.newLst sim h (rds_rep rs _)⟩
          rw [sizeLine_eq]
          have a1 : vs.length * k.toNat ≤ 1000 * 1000 := Nat.mul_le_mul (by omega) (by omega)
          omega
      · exact h.elim
    · exact h.elim
  · exact h.elim
theorem o_bin {o : Operator} {p : Bop} (h : bopOf o = some p) : OpR X (binaryOp o) (rB X xr p) := by
  cases o <;> first
    | (cases h; done)
    | (have e : p = _ := (Option.some.inj h).symm
       subst e
       first | exact o_add | exact o_sub | exact o_mul | exact o_mod | exact o_fdiv | exact o_pow)

/-! ### comparisons -/
abbrev rC (X : Cx) (xr : XR) (p : Cop) : R2 := rD X.K xr (fun x y M => Res.ofO ((cop p x y M).map .bl) M)
theorem eqF_V {K : PySem.W.Frag} {ρ : List Addr} {H : Hp} {a b : D} {x y : V} (fa : flatD a = true) (fb : flatD b = true) (ra : RD K ρ H a x) (rb : RD K ρ H b y) : eqF a b = eqV x y := by
  cases a <;> first | (cases fa; done) | skip
  all_goals cases b <;> first | (cases fb; done) | skip
  all_goals (cases ra; cases rb; rfl)
theorem flatV_of {K : PySem.W.Frag} {ρ : List Addr} {H : Hp} {a : D} {x : V} (fa : flatD a = true) (ra : RD K ρ H a x) : flatV x = true := by
  cases a <;> first | (cases fa; done) | skip
  all_goals (cases ra; rfl)
theorem inV_of {K : PySem.W.Frag} {ρ : List Addr} {H : Hp} {a : D} {x : V} (fa : flatD a = true) (ra : RD K ρ H a x) : ∀ {l : List D} {vs : List V}, l.all flatD = true → RDs K ρ H l vs → vs.all flatV = true ∧ inV x vs = (l.any fun y => eqF y a)
  | [], _, _, r => by cases r; exact ⟨rfl, rfl⟩
  | d :: l, _, f, r => by
    cases r with
    | cons r1 r2 =>
      rw [List.all_cons, Bool.and_eq_true] at f
      obtain ⟨i1, i2⟩ := inV_of fa ra f.2 r2
      refine ⟨by rw [List.all_cons, flatV_of f.1 r1, i1]; rfl, ?_⟩
      unfold inV at i2 ⊢
      rw [List.any_cons, List.any_cons, i2, eqF_V f.1 fa r1 ra]
theorem allInts_V {K : PySem.W.Frag} {ρ : List Addr} {H : Hp} : ∀ {l : List D} {vs : List V} {ns : List Int}, allInts l = some ns → RDs K ρ H l vs → vs = ns.map V.int
  | [], _, _, e, r => by cases r; cases e; rfl
  | d :: l, _, ns, e, r => by
    cases r with
    | cons r1 r2 =>
      cases d <;> first | (cases e; done) | skip
      unfold allInts at e
      simp only [Option.map_eq_some_iff] at e
      obtain ⟨ms, e1, rfl⟩ := e
      cases r1
      rw [allInts_V e1 r2]; rfl
theorem eq_of {ρ : List Addr} {H : Hp} {M : Mem} {d e : D} {x y : V} {b : Bool} (sim : Sim X.K ρ M H) (h : eqD M d e = some b) (rd : RD X.K ρ H d x) (re : RD X.K ρ H e y) :
    ∃ p q, Dp X.K H x p ∧ Dp X.K H y q ∧ SeqAt.shaped p = true ∧ SeqAt.shaped q = true ∧ PyData.eqv p q = b := by
  unfold eqD at h
  split at h
  · rename_i p q e1 e2
    split at h
    · rename_i hs
      rw [Bool.and_eq_true] at hs
      exact ⟨p, q, dp_of sim _ _ _ _ e1 rd, dp_of sim _ _ _ _ e2 re, hs.1, hs.2, Option.some.inj h⟩
    · cases h
  · cases h
theorem c_eq (hu : X.A.units + 64 < cLine) : OpR X (compareOp .Eq) (rC X xr .eq) := by
  intro pins s σ H x y v u Q I rx ry h
  obtain ⟨ρ, M, d, e, sim, rd', re, h⟩ := h
  obtain ⟨b, e1, q⟩ := h.ofO sim
  obtain ⟨p, r, h1, h2, h3, h4, rfl⟩ := eq_of sim e1 rd' re
  exact op_eqD hu pins s σ H _ _ v u Q I rx ry ⟨p, r, h1, h2, h3, h4, q _ (.bl _)⟩
theorem c_ne (hu : X.A.units + 64 < cLine) : OpR X (compareOp .NotEq) (rC X xr .ne) := by
  intro pins s σ H x y v u Q I rx ry h
  obtain ⟨ρ, M, d, e, sim, rd', re, h⟩ := h
  obtain ⟨b, e1, q⟩ := h.ofO sim
  obtain ⟨b', e2, rfl⟩ := Option.map_eq_some_iff.mp (show (eqD M d e).map (!·) = some b from e1)
  obtain ⟨p, r, h1, h2, h3, h4, rfl⟩ := eq_of sim e2 rd' re
  exact op_neD hu pins s σ H _ _ v u Q I rx ry ⟨p, r, h1, h2, h3, h4, q _ (.bl _)⟩
theorem c_lt (hu : X.A.units + 64 < cLine) : OpR X (compareOp .Lt) (rC X xr .lt) := by
  intro pins s σ H x y v u Q I rx ry h
  obtain ⟨ρ, M, d, e, sim, rd', re, h⟩ := h
  obtain ⟨b, e1, q⟩ := h.ofO sim
  change ltD d e = some b at e1
  unfold ltD at e1
  split at e1
  · cases rd'; cases re
    cases e1
    exact op_lt pins s σ H _ _ v u Q I rx ry ⟨_, _, rfl, rfl, q _ (.bl _)⟩
  · split at e1
    · rename_i i1 i2
      cases e1
      cases rd' with
      | tup hq hs =>
        cases re with
        | tup hq2 hs2 =>
          cases allInts_V i1 hs
          cases allInts_V i2 hs2
          exact op_ltT (by omega) pins s σ H _ _ v u Q I rx ry ⟨_, _, _, _, rfl, rfl, hq, hq2, q _ (.bl _)⟩
    · cases e1
  · cases e1
theorem c_le (hu : X.A.units + 64 < cLine) : OpR X (compareOp .LtE) (rC X xr .le) := by
  intro pins s σ H x y v u Q I rx ry h
  obtain ⟨ρ, M, d, e, sim, rd', re, h⟩ := h
  obtain ⟨b, e1, q⟩ := h.ofO sim
  change leD d e = some b at e1
  unfold leD at e1
  split at e1
  · cases rd'; cases re
    cases e1
    exact op_le pins s σ H _ _ v u Q I rx ry ⟨_, _, rfl, rfl, q _ (.bl _)⟩
  · split at e1
    · rename_i i1 i2
      cases e1
      cases rd' with
      | tup hq hs =>
        cases re with
        | tup hq2 hs2 =>
          cases allInts_V i1 hs
          cases allInts_V i2 hs2
          exact op_leT (by omega) pins s σ H _ _ v u Q I rx ry ⟨_, _, _, _, rfl, rfl, hq, hq2, q _ (.bl _)⟩
    · cases e1
  · cases e1
theorem c_gt (hu : X.A.units + 64 < cLine) : OpR X (compareOp .Gt) (rC X xr .gt) := by
  intro pins s σ H x y v u Q I rx ry h
  obtain ⟨ρ, M, d, e, sim, rd', re, h⟩ := h
  obtain ⟨b, e1, q⟩ := h.ofO sim
  change gtD d e = some b at e1
  unfold gtD at e1
  split at e1
  · cases rd'; cases re
    cases e1
    exact op_gt pins s σ H _ _ v u Q I rx ry ⟨_, _, rfl, rfl, q _ (.bl _)⟩
  · cases e1
theorem c_ge (hu : X.A.units + 64 < cLine) : OpR X (compareOp .GtE) (rC X xr .ge) := by
  intro pins s σ H x y v u Q I rx ry h
  obtain ⟨ρ, M, d, e, sim, rd', re, h⟩ := h
  obtain ⟨b, e1, q⟩ := h.ofO sim
  change geD d e = some b at e1
  unfold geD at e1
  split at e1
  · cases rd'; cases re
    cases e1
    exact op_ge pins s σ H _ _ v u Q I rx ry ⟨_, _, rfl, rfl, q _ (.bl _)⟩
  · cases e1
theorem c_isq : OpR X (compareOp .Is) (rC X xr .isq) := by
  intro pins s σ H x y v u Q I rx ry h
  obtain ⟨ρ, M, d, e, sim, rd', re, h⟩ := h
  obtain ⟨b, e1, q⟩ := h.ofO sim
  change (if isNonD e = true then some (isNonD d) else none) = some b at e1
  split at e1
  · rename_i hn
    cases e1
    have he : y = .non := by cases re <;> first | rfl | cases hn
    have hd : decide (x = .non) = isNonD d := by cases rd' <;> rfl
    refine op_isN pins s σ H _ _ v u Q I rx ry ⟨he, ?_⟩
    rw [hd]
    exact q _ (.bl _)
  · cases e1
theorem c_isn : OpR X (compareOp .IsNot) (rC X xr .isn) := by
  intro pins s σ H x y v u Q I rx ry h
  obtain ⟨ρ, M, d, e, sim, rd', re, h⟩ := h
  obtain ⟨b, e1, q⟩ := h.ofO sim
  change (if isNonD e = true then some (!isNonD d) else none) = some b at e1
  split at e1
  · rename_i hn
    cases e1
    have he : y = .non := by cases re <;> first | rfl | cases hn
    have hd : decide (x = .non) = isNonD d := by cases rd' <;> rfl
    refine op_notN pins s σ H _ _ v u Q I rx ry ⟨he, ?_⟩
    rw [hd]
    exact q _ (.bl _)
  · cases e1
theorem items_of {K : PySem.W.Frag} {ρ : List Addr} {H : Hp} {M : Mem} (sim : Sim K ρ M H) {d : D} {x : V} {l : List D} (h : items M d = some l) (r : RD K ρ H d x) : ∃ a vs, x = .ref a ∧ RDs K ρ H l vs ∧ (SqL K H a vs ∨ SqT K H a vs) := by
  cases r with
  | tup hq hs => cases h; exact ⟨_, _, rfl, hs, .inr hq⟩
  | ref ha =>
    obtain ⟨vs, r, q⟩ := sim.list h ha
    exact ⟨_, _, rfl, r, .inl (.of q)⟩
  | fl hq hs => cases h; exact ⟨_, _, rfl, hs, .inl hq.sql⟩
  | _ => cases h
theorem in_of {ρ : List Addr} {H : Hp} {M : Mem} {d e : D} {x y : V} {b : Bool} (sim : Sim X.K ρ M H) (h : inD M d e = some b) (rd : RD X.K ρ H d x) (re : RD X.K ρ H e y) :
    ∃ a vs, y = .ref a ∧ (SqL X.K H a vs ∨ SqT X.K H a vs) ∧ flatV x = true ∧ vs.all flatV = true ∧ inV x vs = b := by
  unfold inD at h
  split at h
  · rename_i l e1
    split at h
    · rename_i hf
      rw [Bool.and_eq_true] at hf
      obtain ⟨a, vs, rfl, rs, w⟩ := items_of sim e1 re
      obtain ⟨f1, f2⟩ := inV_of hf.1 rd hf.2 rs
      exact ⟨a, vs, rfl, w, flatV_of hf.1 rd, f1, f2.trans (Option.some.inj h)⟩
    · cases h
  · cases h
theorem c_in : OpR X (compareOp .In) (rC X xr .isin) := by
  intro pins s σ H x y v u Q I rx ry h
  obtain ⟨ρ, M, d, e, sim, rd', re, h⟩ := h
  obtain ⟨b, e1, q⟩ := h.ofO sim
  obtain ⟨a, vs, rfl, w, f1, f2, rfl⟩ := in_of sim e1 rd' re
  refine op_in_seq pins s σ H _ _ v u Q I rx ry ⟨a, vs, rfl, w, f1, f2, ?_⟩
  rw [if_neg Bool.false_ne_true]
  exact q _ (.bl _)
theorem c_notin : OpR X (compareOp .NotIn) (rC X xr .notin) := by
  intro pins s σ H x y v u Q I rx ry h
  obtain ⟨ρ, M, d, e, sim, rd', re, h⟩ := h
  obtain ⟨b, e1, q⟩ := h.ofO sim
  obtain ⟨b', e2, rfl⟩ := Option.map_eq_some_iff.mp (show (inD M d e).map (!·) = some b from e1)
  obtain ⟨a, vs, rfl, w, f1, f2, rfl⟩ := in_of sim e2 rd' re
  refine op_notIn_seq pins s σ H _ _ v u Q I rx ry ⟨a, vs, rfl, w, f1, f2, ?_⟩
  rw [if_pos rfl]
  exact q _ (.bl _)
theorem c_op (hu : X.A.units + 64 < cLine) (o : CmpOp) : OpR X (compareOp o) (rC X xr (copOf o)) := by
  cases o
  · exact c_eq hu
  · exact c_ne hu
  · exact c_lt hu
  · exact c_le hu
  · exact c_gt hu
  · exact c_ge hu
  · exact c_isq
  · exact c_isn
  · exact c_in
  · exact c_notin
end
end Mp

set_option Elab.async false
set_option linter.all false
set_option maxRecDepth 100000
set_option maxHeartbeats 4000000
set_option autoImplicit false
/-! Expressions, one form at a time. -/
namespace Mp
open PySem PySem.Spec L2

/-- the built-ins that are called by their names -/
def bltNames : List Str := ["len", "repr", "tuple", "list", "sum", "min", "max", "abs", "range", "enumerate", "zip", "isinstance", "int", "bool", "str", "dict"]
/-- a def called with values -/
def CallS (G : Gl) (xr : XR) (W : WX) (X : Cx) (f : Str) (a : Addr) : Prop :=
  ∀ (pins : List (Addr × Obj)) (s : Shared) (σ : L2.St) (H : Hp) (Q : VK) (us ws : List Value) (vs zs : List V) (ks : List Str) (ρ : List Addr) (M : Mem) (ds es : List D),
    Inv X pins σ H s → Vals vs us → Vals zs ws → es.length = ks.length → Sim X.K ρ M H → RDs X.K ρ H ds vs → RDs X.K ρ H es zs →
    (Rs X.K xr W ρ H σ (G.call f ds (ks.zip es) M) fun d _ ρ' H' => ∀ v, RD X.K ρ' H' d v → Q v H') →
    wpAny (model X.prog X.w) X.A (PySem.call (.ref a) us (ks.zip ws)) (EP X pins σ Q) X.xe s
/-- a def of the text, by what it comes to -/
structure GFn (xr : XR) (P : Program) (w : World) (K : PySem.W.Frag) (mg : Str → Option Value) (base : Heap) (k : Nat) (a : Addr) (den : List D → List (Str × D) → Mem → Res D) : Prop where
  run : ∀ (A : Around) (outer : List Env) (s : Shared) (H : Hp) (us ws : List Value) (ks : List Str) (vs zs : List V) (ρ : List Addr) (M : Mem) (ds es : List D) (Q : VK) (E : XK), A.guards = some [] → Room k A → Env0 P w K mg base A outer s H →
    Vals vs us → Vals zs ws → es.length = ks.length → Sim K ρ M H → RDs K ρ H ds vs → RDs K ρ H es zs →
    (Rs K xr (fun c d _ H' => E c d H') ρ H [] (den ds (ks.zip es) M) fun d _ ρ' H' => ∀ v, RD K ρ' H' d v → Q v H') →
    codeAny (model P w) A (.call (.ref a) ⟨us, ks.zip ws⟩) (CR (L2.CX P w) outer P w H s Q E) s
structure Ctx (G : Gl) (xr : XR) (W : WX) (X : Cx) (N : List Str) (sc : Names) : Prop where
  hN : X.N = N
  nd : N.Nodup
  calm : X.calm = true
  kind : X.env.scope.kind = .function
  vis : ∀ x, vis sc x = true → Vis X.env.scope x
  gl : ∀ x, glo sc x = true → L2.Gl X x
  sto : ∀ x, stob sc x = true → Loc X.env.scope x ∧ (X.fn x = true ∨ X.env.scope.names.lookup x = some .local)
  cap : ∀ x, sc.lookup x = some .cell ∨ sc.lookup x = some .free → X.env.scope.names.lookup x = some .cell ∨ X.env.scope.names.lookup x = some .free
  lcl : ∀ x, sc.lookup x = some .local → X.env.scope.names.lookup x = some .local
  un : X.A.units + 100 < cLine
  gd : X.A.guards = some []
  blt : ∀ f ∈ bltNames, X.mg f = none
  glob : ∀ x d, G.glob x = some d → ∃ u v, X.mg x = some u ∧ RelV v u ∧ ∀ ρ H, RD X.K ρ H d v
  tk : Takes X W
  fns : ∃ k, Room k X.A ∧ ∀ f, G.known f = true → ∃ a, X.mg f = some (.ref a) ∧ PySem.W.keepIn X.K (.ref a) = true ∧ GFn xr X.prog X.w X.K X.mg X.base k a (G.call f)
theorem Ctx.call {G : Gl} {xr : XR} {W : WX} {X : Cx} {N : List Str} {sc : Names} (C : Ctx G xr W X N sc) (f : Str) (hk : G.known f = true) : ∃ a, X.mg f = some (.ref a) ∧ PySem.W.keepIn X.K (.ref a) = true ∧ CallS G xr W X f a := by
  obtain ⟨k, rm, fns⟩ := C.fns
  obtain ⟨a, h1, h2, gf⟩ := fns f hk
  refine ⟨a, h1, h2, fun pins s σ H Q us ws vs zs ks ρ M ds es I rv rz hl sim rs re h => ?_⟩
  have h' : Rs X.K xr (fun c d _ H' => WE W σ c d H') ρ H [] (G.call f ds (ks.zip es) M) fun d _ ρ' H' => ∀ v, RD X.K ρ' H' d v → Q v H' := by
    cases e : G.call f ds (ks.zip es) M with
    | ok d M' => rw [e] at h; exact h
    | exc x M' => rw [e] at h; exact h
    | bad => rw [e] at h; exact h
  refine wpAny_call (codeAny_mono (gf.run X.A X.stack s H us ws ks vs zs ρ M ds es Q (WE W σ) C.gd rm I.env0 rv rz hl sim rs re h') fun r s' hq => ?_)
  cases r with
  | error e => exact passAt C.tk σ pins H s e s' I hq
  | ok fl =>
    cases fl with
    | ret u => exact I.after hq
    | next => exact False.elim hq
    | brk => exact False.elim hq
    | cont => exact False.elim hq

theorem tru_of {K : PySem.W.Frag} {ρ : List Addr} {H : Hp} {M : Mem} (sim : Sim K ρ M H) {d : D} {x : V} {k : Bool} (h : truth M d = some k) (r : RD K ρ H d x) : TruV K x H k := by
  unfold truth at h
  cases r with
  | non => cases h; rfl
  | bl b => cases h; rfl
  | int i => cases h; rfl
  | str y =>
    simp only at h
    split at h
    · rename_i hz; cases h; exact ⟨hz, rfl⟩
    · cases h
  | tup hq hs =>
    cases h
    exact .inr (.inl ⟨_, hq, by rw [hs.nil_iff]⟩)
  | ref ha =>
    simp only at h
    split at h
    · rename_i l e
      cases h
      obtain ⟨vs, rs, q⟩ := sim.at e ha
      exact .inl ⟨_, .of q, by rw [rs.nil_iff]⟩
    · rename_i l e
      cases h
      obtain ⟨kvs, e1, rs, q⟩ := sim.at e ha
      refine .inr (.inr ⟨kvs, q, ?_⟩)
      cases l <;> cases kvs <;> first | rfl | (simp at e1)
    · cases h
  | fl hq hs =>
    cases h
    exact .inl ⟨_, hq.sql, by rw [hs.nil_iff]⟩

section
variable {G : Gl} {xr : XR} {W : WX} {X : Cx} {N : List Str} {sc : Names}
abbrev E' (X : Cx) (xr : XR) (W : WX) (f : S → Mem → Res D) : TE := tE X.K xr W f
theorem n_c {e : Expr} {v : V} {d : D} (h : PE X e (tC v)) (r : ∀ ρ H, RD X.K ρ H d v) : PE X e (E' X xr W fun _ M => .ok d M) := by
  refine peM h fun σ H Q => ?_
  rintro ⟨ρ, s, M, sim, sl, h⟩
  exact h.now sim v (r ρ H)
theorem n_v {i : Nat} {x : Str} {pos : Pos} (hN : X.N[i]? = some x) (hv : Vis X.env.scope x) (hd : (x == ("__debug__" : Str)) = false) (hcd : (x == ("__classdict__" : Str)) = false) : PE X (.Name x pos) (E' X xr W (ev G (.v i))) := by
  refine peM (pe_var hN hv hd hcd) fun σ H Q => ?_
  rintro ⟨ρ, s, M, sim, sl, h⟩
  simp only [ev] at h
  split at h
  · rename_i d e
    obtain ⟨v, e1, r⟩ := sl.get i d e
    exact ⟨v, e1, h.now sim v r⟩
  · exact h.elim
theorem n_g {x : Str} {pos : Pos} (C : Ctx G xr W X N sc) (hg : L2.Gl X x) (hd : (x == ("__debug__" : Str)) = false) : PE X (.Name x pos) (E' X xr W (ev G (.g x))) := by
  cases hx : G.glob x with
  | none =>
    refine peM (pe_bad (K := X.K) (xr := xr) (W := W)) fun σ H Q => ?_
    rintro ⟨ρ, s, M, sim, sl, h⟩
    refine ⟨ρ, s, M, sim, sl, ?_⟩
    simp only [ev, hx] at h
    exact h
  | some d =>
    obtain ⟨u, v, hm, r, rd⟩ := C.glob x d hx
    refine peM (pe_glob hg hm r hd) fun σ H Q => ?_
    rintro ⟨ρ, s, M, sim, sl, h⟩
    simp only [ev, hx] at h
    exact h.now sim v (rd ρ H)
theorem n_bin {a b : Expr} {o : Operator} {p : Bop} {pos : Pos} {x y : Ir} (ho : bopOf o = some p) (ha : PE X a (E' X xr W (ev G x))) (hb : PE X b (E' X xr W (ev G y))) : PE X (.BinOp a o b pos) (E' X xr W (ev G (.bin p x y))) := by
  have := pe_bin (xr := xr) (bop_nx p) (pe_op (pos := pos) (o_bin (X := X) (xr := xr) ho) ha hb)
  refine peM this fun σ H Q => ?_
  rintro ⟨ρ, s, M, sim, sl, h⟩
  exact ⟨ρ, s, M, sim, sl, by simpa only [ev] using h⟩
theorem n_neg {a : Expr} {pos : Pos} {x : Ir} (ha : PE X a (E' X xr W (ev G x))) : PE X (.UnaryOp .USub a pos) (E' X xr W (ev G (.neg x))) := by
  refine peM (pe_un un_neg ha) fun σ H Q => ?_
  rintro ⟨ρ, s, M, sim, sl, h⟩
  simp only [ev] at h
  refine ⟨ρ, s, M, sim, sl, Rs.imp (Rs.bind h) fun d M1 ρ1 H1 x1 k1 s1 h1 v r => ?_⟩
  split at h1
  · cases r
    exact ⟨_, rfl, h1.now s1 _ (.int _)⟩
  · exact h1.elim
theorem n_not {a : Expr} {pos : Pos} {x : Ir} (ha : PE X a (E' X xr W (ev G x))) : PE X (.UnaryOp .Not a pos) (E' X xr W (ev G (.nt x))) := by
  refine peM (pe_notT ha) fun σ H Q => ?_
  rintro ⟨ρ, s, M, sim, sl, h⟩
  simp only [ev] at h
  refine ⟨ρ, s, M, sim, sl, Rs.imp (Rs.bind h) fun d M1 ρ1 H1 x1 k1 s1 h1 v r => ?_⟩
  obtain ⟨k, e, q⟩ := h1.ofO s1
  exact ⟨k, tru_of s1 e r, q _ (.bl _)⟩
theorem n_cmp {a b : Expr} {o : CmpOp} {pos : Pos} {x y : Ir} (C : Ctx G xr W X N sc) (hm : behindInMarks o b = false) (ha : PE X a (E' X xr W (ev G x))) (hb : PE X b (E' X xr W (ev G y))) : PE X (.Compare a [o] [b] pos) (E' X xr W (ev G (.cmp (copOf o) x y))) := by
  have := pe_bin (xr := xr) (fun _ _ _ => ofO_nx _ _) (pe_cmpR (pos := pos) (c_op (X := X) (xr := xr) (by have := C.un; omega) o) ha hb hm)
  refine peM this fun σ H Q => ?_
  rintro ⟨ρ, s, M, sim, sl, h⟩
  exact ⟨ρ, s, M, sim, sl, by simpa only [ev] using h⟩
theorem chn_rd {o p : Cop} {x y z : Ir} {σ : L2.St} {H : Hp} {Q : VK} : E' X xr W (ev G (.chn o p x y z)) σ H Q → tChain (rC X xr o) (rC X xr p) (E' X xr W (ev G x)) (E' X xr W (ev G y)) (E' X xr W (ev G z)) σ H Q := by
  rintro ⟨ρ, s, M, sim, sl, h⟩
  simp only [ev] at h
  refine ⟨ρ, s, M, sim, sl, Rs.imp (Rs.bind h) fun d M1 ρ1 H1 x1 k1 s1 h1 v r => ?_⟩
  refine ⟨ρ1, s, M1, s1, sl.mono k1 x1, Rs.imp (Rs.bind h1) fun e M2 ρ2 H2 x2 k2 s2 h2 w r2 => ?_⟩
  obtain ⟨b', eb, q⟩ := h2.bind.ofO' s2
  refine ⟨ρ2, M2, d, e, s2, RD.mono k2 x2 _ _ r, r2, ?_⟩
  simp only [eb, Option.map_some, Res.ofO_some]
  intro ρ3 H3 x3 k3 s3 v3 r3
  cases r3
  refine ⟨b', rfl, ?_⟩
  cases b' with
  | false =>
    rw [if_neg Bool.false_ne_true] at q ⊢
    exact q ρ3 H3 x3 k3 s3 _ (.bl _)
  | true =>
    rw [if_pos rfl] at q ⊢
    have q' : Rs X.K xr W ρ2 H2 σ ((ev G z s M2).bind fun z' M3 => Res.ofO ((cop p e z' M3).map .bl) M3) fun d _ ρ' H' => ∀ v, RD X.K ρ' H' d v → Q v H' := q
    refine ⟨ρ3, s, M2, s3, (sl.mono (k1.trans k2) (x1.trans x2)).mono k3 x3, ?_⟩
    refine Rs.imp (Rs.bind (Rs.later q' x3 k3)) fun f M4 ρ4 H4 x4 k4 s4 h4 v4 r4 => ?_
    exact ⟨ρ4, M4, e, f, s4, RD.mono k4 x4 _ _ (RD.mono k3 x3 _ _ r2), r4, h4.quiet (ofO_nx _ _)⟩
theorem n_chn {a b c : Expr} {o p : CmpOp} {pos : Pos} {x y z : Ir} (C : Ctx G xr W X N sc) (hm : lastMarks [o, p] [b, c] = false) (ha : PE X a (E' X xr W (ev G x))) (hb : PE X b (E' X xr W (ev G y))) (hc : PE X c (E' X xr W (ev G z))) :
    PE X (.Compare a [o, p] [b, c] pos) (E' X xr W (ev G (.chn (copOf o) (copOf p) x y z))) := by
  have hu : X.A.units + 64 < cLine := by have := C.un; omega
  exact peM (pe_chain (pos := pos) (c_op (X := X) (xr := xr) hu o) (c_op (X := X) (xr := xr) hu p) ha hb hc hm) fun σ H Q => chn_rd
abbrev T' (X : Cx) (xr : XR) (W : WX) (f : S → Mem → Res Bool) : TT := tT X.K xr W f
abbrev L' (X : Cx) (xr : XR) (W : WX) (f : S → Mem → Res (List D)) : TA := tL X.K xr W f
theorem n_an {a b : Expr} {rest : List Expr} {pos : Pos} {x y : Ir} (ha : PE X a (E' X xr W (ev G x))) (hb : PE X (.BoolOp .And (b :: rest) pos) (E' X xr W (ev G y))) : PE X (.BoolOp .And (a :: b :: rest) pos) (E' X xr W (ev G (.an x y))) := by
  refine peM (pe_andT ha hb) fun σ H Q => ?_
  rintro ⟨ρ, s, M, sim, sl, h⟩
  simp only [ev] at h
  refine ⟨ρ, s, M, sim, sl, Rs.imp (Rs.bind h) fun d M1 ρ1 H1 x1 k1 s1 h1 v r => ?_⟩
  obtain ⟨k, e, q⟩ := h1.bind.ofO' s1
  refine ⟨k, tru_of s1 e r, ?_⟩
  cases k with
  | true =>
    rw [if_pos rfl] at q ⊢
    exact ⟨ρ1, s, M1, s1, sl.mono k1 x1, q⟩
  | false =>
    rw [if_neg Bool.false_ne_true] at q ⊢
    exact q.now s1 _ r
theorem n_or {a b : Expr} {rest : List Expr} {pos : Pos} {x y : Ir} (ha : PE X a (E' X xr W (ev G x))) (hb : PE X (.BoolOp .Or (b :: rest) pos) (E' X xr W (ev G y))) : PE X (.BoolOp .Or (a :: b :: rest) pos) (E' X xr W (ev G (.orr x y))) := by
  refine peM (pe_orT ha hb) fun σ H Q => ?_
  rintro ⟨ρ, s, M, sim, sl, h⟩
  simp only [ev] at h
  refine ⟨ρ, s, M, sim, sl, Rs.imp (Rs.bind h) fun d M1 ρ1 H1 x1 k1 s1 h1 v r => ?_⟩
  obtain ⟨k, e, q⟩ := h1.bind.ofO' s1
  refine ⟨k, tru_of s1 e r, ?_⟩
  cases k with
  | false =>
    rw [if_neg Bool.false_ne_true] at q ⊢
    exact ⟨ρ1, s, M1, s1, sl.mono k1 x1, q⟩
  | true =>
    rw [if_pos rfl] at q ⊢
    exact q.now s1 _ r
theorem n_ite {c a b : Expr} {pos : Pos} {z x y : Ir} (hc : PT X c (T' X xr W (tst G z))) (ha : PE X a (E' X xr W (ev G x))) (hb : PE X b (E' X xr W (ev G y))) : PE X (.IfExp c a b pos) (E' X xr W (ev G (.ite z x y))) := by
  refine peM (pe_ifExp hc ha hb) fun σ H Q => ?_
  rintro ⟨ρ, s, M, sim, sl, h⟩
  refine ⟨ρ, s, M, sim, sl, ?_⟩
  have e : ev G (.ite z x y) s M = (tst G z s M).bind fun k M1 => if k = true then ev G x s M1 else ev G y s M1 := by
    simp only [ev, tst]
    cases ev G z s M <;> rfl
  rw [e] at h
  refine Rs.imp (Rs.bind h) fun k M1 ρ1 H1 x1 k1 s1 h1 => ?_
  cases k with
  | false =>
    rw [if_neg Bool.false_ne_true] at h1 ⊢
    exact ⟨ρ1, s, M1, s1, sl.mono k1 x1, h1⟩
  | true =>
    rw [if_pos rfl] at h1 ⊢
    exact ⟨ρ1, s, M1, s1, sl.mono k1 x1, h1⟩
/-! ### lists of expressions -/
theorem se_cons {e : Expr} {es : List Expr} {env : Env} (h : starred e = false) : starEach (e :: es) env = (false, eval e env) :: starEach es env := by
  cases e <;> first | rfl | cases h
theorem se_plain {pos : Pos} {env : Env} : ∀ {es : List Expr}, es.any starred = false → (backTo pos (starEach es env)).any (·.1) = false
  | [], _ => rfl
  | e :: es, h => by
    rw [List.any_cons, Bool.or_eq_false_iff] at h
    rw [se_cons h.1]
    show ((false || (backTo pos (starEach es env)).any (·.1))) = false
    rw [se_plain h.2]; rfl
theorem n_args {f : Expr → Ir} : ∀ {es : List Expr}, es.any starred = false → (∀ e ∈ es, PE X e (E' X xr W (ev G (f e)))) → PA X es (L' X xr W (evs G (irs (es.map f))))
  | [], _, _ => by
    refine paM pa_nil fun σ H Q => ?_
    rintro ⟨ρ, s, M, sim, sl, h⟩
    exact h.now sim [] .nil
  | e :: es, hs, h => by
    rw [List.any_cons, Bool.or_eq_false_iff] at hs
    refine paM (pa_cons (h e List.mem_cons_self) (n_args hs.2 fun x hx => h x (List.mem_cons_of_mem _ hx)) (se_cons hs.1)) fun σ H Q => ?_
    rintro ⟨ρ, s, M, sim, sl, h⟩
    simp only [List.map_cons, irs, evs] at h
    refine ⟨ρ, s, M, sim, sl, Rs.imp (Rs.bind h) fun d M1 ρ1 H1 x1 k1 s1 h1 v r => ?_⟩
    refine ⟨ρ1, s, M1, s1, sl.mono k1 x1, Rs.imp (Rs.bind h1) fun l M2 ρ2 H2 x2 k2 s2 h2 vs rs => ?_⟩
    exact h2.now s2 _ (.cons (RD.mono k2 x2 _ _ r) rs)
theorem n_tup {es : List Expr} {k : Nat} {pos : Pos} {l : Irs} (h : PA X es (L' X xr W (evs G l))) : PE X (.Tuple es k pos) (E' X xr W (ev G (.tup l))) := by
  refine peM (pe_tup h) fun σ H Q => ?_
  rintro ⟨ρ, s, M, sim, sl, h⟩
  simp only [ev] at h
  refine ⟨ρ, s, M, sim, sl, Rs.imp (Rs.bind h) fun ds M1 ρ1 H1 x1 k1 s1 h1 vs rs => ?_⟩
  split at h1
  · rename_i hz
    exact ⟨by rw [← rs.length]; exact hz, Rs.newTup s1 h1 rs⟩
  · exact h1.elim
theorem n_lst {es : List Expr} {pos : Pos} {l : Irs} (h : PA X es (L' X xr W (evs G l))) : PE X (.List es pos) (E' X xr W (ev G (.lst l))) := by
  refine peM (pe_lst h) fun σ H Q => ?_
  rintro ⟨ρ, s, M, sim, sl, h⟩
  simp only [ev] at h
  refine ⟨ρ, s, M, sim, sl, Rs.imp (Rs.bind h) fun ds M1 ρ1 H1 x1 k1 s1 h1 vs rs => ?_⟩
  split at h1
  · rename_i hz
    exact ⟨by rw [← rs.length]; exact hz, Rs.newLst s1 h1 rs⟩
  · exact h1.elim
/-! ### tests -/
/-- a plain test: the value's truth -/
theorem t_plain {e : Expr} {x : Ir} (h : PE X e (E' X xr W (ev G x))) (he : ∀ whole, isTrue e X.env whole = (do let v ← whole; standAt e.pos; holding [v] (truthy v))) : PT X e (T' X xr W (tst G x)) := by
  refine ⟨fun pins s σ H Q I hw => ?_⟩
  obtain ⟨ρ, st, M, sim, sl, hw⟩ := hw
  unfold tst at hw
  refine PyProof.Rows.isTrue_plain (thn (h.run pins s σ H (fun v H1 => ∃ k, TruV X.K v H1 k ∧ Q k H1) I ⟨ρ, st, M, sim, sl, Rs.imp (Rs.bind hw) fun d M1 ρ1 H1 x1 k1 s1 h1 v r => ?_⟩) fun v s1 ⟨y, H1, I1, r1, q1⟩ => ?_) (he _)
  · obtain ⟨k, e, q⟩ := h1.ofO' s1
    exact ⟨k, tru_of s1 e r, q⟩
  · exact tru_ok pins s1 σ H1 y v Q I1 r1 q1
theorem tst_cmp {o : Cop} {x y : Ir} {s : S} {M : Mem} : tst G (.cmp o x y) s M = (ev G x s M).bind fun a M1 => (ev G y s M1).bind fun b M2 => Res.ofO (cop o a b M2) M2 := by
  simp only [tst, ev]
  cases ev G x s M with
  | ok a M1 =>
    simp only [Res.bind_ok]
    cases ev G y s M1 with
    | ok b M2 => simp only [Res.bind_ok]; cases cop o a b M2 <;> rfl
    | exc _ _ => rfl
    | bad => rfl
  | exc _ _ => rfl
  | bad => rfl
/-- a value as a test, where the value is a bool -/
theorem tT_of {x : Ir} {t : TE} {σ : L2.St} {H : Hp} {Q : Bool → Hp → Prop} (f : ∀ Q', E' X xr W (ev G x) σ H Q' → t σ H Q') (hb : ∀ s M d M', ev G x s M = .ok d M' → ∃ b, d = .bl b) (h : T' X xr W (tst G x) σ H Q) : tTest t σ H Q := by
  obtain ⟨ρ, s, M, sim, sl, h⟩ := h
  refine f _ ⟨ρ, s, M, sim, sl, ?_⟩
  unfold tst at h
  cases e : ev G x s M with
  | ok d M1 =>
    rw [e] at h
    obtain ⟨b, rfl⟩ := hb s M d M1 e
    intro ρ1 H1 x1 k1 s1 v r
    cases r
    exact ⟨b, rfl, h ρ1 H1 x1 k1 s1⟩
  | exc _ _ => rw [e] at h; exact h
  | bad => rw [e] at h; exact h
theorem bl_cmp {o : Cop} {x y : Ir} (s : S) (M : Mem) (d : D) (M' : Mem) (h : ev G (.cmp o x y) s M = .ok d M') : ∃ b, d = .bl b := by
  simp only [ev] at h
  cases e : ev G x s M with
  | ok a M1 =>
    rw [e] at h
    simp only [Res.bind_ok] at h
    cases e2 : ev G y s M1 with
    | ok b M2 =>
      rw [e2] at h
      simp only [Res.bind_ok] at h
      cases e3 : cop o a b M2 with
      | none => rw [e3] at h; cases h
      | some k => rw [e3] at h; cases h; exact ⟨k, rfl⟩
    | exc _ _ => rw [e2] at h; cases h
    | bad => rw [e2] at h; cases h
  | exc _ _ => rw [e] at h; cases h
  | bad => rw [e] at h; cases h
theorem bl_chn {o p : Cop} {x y z : Ir} (s : S) (M : Mem) (d : D) (M' : Mem) (h : ev G (.chn o p x y z) s M = .ok d M') : ∃ b, d = .bl b := by
  simp only [ev] at h
  cases e : ev G x s M with
  | ok a M1 =>
    rw [e] at h
    simp only [Res.bind_ok] at h
    cases e2 : ev G y s M1 with
    | ok b M2 =>
      rw [e2] at h
      simp only [Res.bind_ok] at h
      cases e3 : cop o a b M2 with
      | none => rw [e3] at h; cases h
      | some k =>
        rw [e3] at h
        simp only [Res.ofO_some, Res.bind_ok] at h
        cases k with
        | false => cases h; exact ⟨false, rfl⟩
        | true =>
          rw [if_pos rfl] at h
          cases e4 : ev G z s M2 with
          | ok c M3 =>
            rw [e4] at h
            simp only [Res.bind_ok] at h
            cases e5 : cop p b c M3 with
            | none => rw [e5] at h; cases h
            | some k => rw [e5] at h; cases h; exact ⟨k, rfl⟩
          | exc _ _ => rw [e4] at h; cases h
          | bad => rw [e4] at h; cases h
    | exc _ _ => rw [e2] at h; cases h
    | bad => rw [e2] at h; cases h
  | exc _ _ => rw [e] at h; cases h
  | bad => rw [e] at h; cases h
theorem t_not {a : Expr} {pos : Pos} {x : Ir} (ha : PT X a (T' X xr W (tst G x))) : PT X (.UnaryOp .Not a pos) (T' X xr W (tst G (.nt x))) := by
  refine ptM (pt_not ha) fun σ H Q => ?_
  rintro ⟨ρ, s, M, sim, sl, h⟩
  refine ⟨ρ, s, M, sim, sl, ?_⟩
  have e : tst G (.nt x) s M = (tst G x s M).bind fun k M1 => .ok (!k) M1 := by
    simp only [tst, ev]
    cases ev G x s M with
    | ok a M1 => simp only [Res.bind_ok]; cases truth M1 a <;> rfl
    | exc _ _ => rfl
    | bad => rfl
  rw [e] at h
  exact Rs.imp (Rs.bind h) fun k M1 ρ1 H1 x1 k1 s1 h1 => h1.now s1
theorem tst_an {x y : Ir} {s : S} {M : Mem} : tst G (.an x y) s M = (tst G x s M).bind fun k M1 => if k = true then tst G y s M1 else .ok false M1 := by
  simp only [tst, ev]
  cases ev G x s M with
  | ok a M1 =>
    simp only [Res.bind_ok]
    cases e : truth M1 a with
    | none => rfl
    | some k =>
      cases k with
      | true => rfl
      | false => show (Res.ofO (truth M1 a) M1 : Res Bool) = _; rw [e]; rfl
  | exc _ _ => rfl
  | bad => rfl
theorem tst_or {x y : Ir} {s : S} {M : Mem} : tst G (.orr x y) s M = (tst G x s M).bind fun k M1 => if k = true then .ok true M1 else tst G y s M1 := by
  simp only [tst, ev]
  cases ev G x s M with
  | ok a M1 =>
    simp only [Res.bind_ok]
    cases e : truth M1 a with
    | none => rfl
    | some k =>
      cases k with
      | false => rfl
      | true => show (Res.ofO (truth M1 a) M1 : Res Bool) = _; rw [e]; rfl
  | exc _ _ => rfl
  | bad => rfl
theorem t_an {a b : Expr} {rest : List Expr} {pos : Pos} {x y : Ir} (ha : PT X a (T' X xr W (tst G x))) (hb : PW X (.BoolOp .And (b :: rest) pos) (T' X xr W (tst G y))) : PW X (.BoolOp .And (a :: b :: rest) pos) (T' X xr W (tst G (.an x y))) := by
  refine pwM (pw_and ha hb) fun σ H Q => ?_
  rintro ⟨ρ, s, M, sim, sl, h⟩
  refine ⟨ρ, s, M, sim, sl, ?_⟩
  rw [tst_an] at h
  refine Rs.imp (Rs.bind h) fun k M1 ρ1 H1 x1 k1 s1 h1 => ?_
  cases k with
  | true =>
    rw [if_pos rfl] at h1 ⊢
    exact ⟨ρ1, s, M1, s1, sl.mono k1 x1, h1⟩
  | false =>
    rw [if_neg Bool.false_ne_true] at h1 ⊢
    exact h1.now s1
theorem t_or {a b : Expr} {rest : List Expr} {pos : Pos} {x y : Ir} (ha : PT X a (T' X xr W (tst G x))) (hb : PW X (.BoolOp .Or (b :: rest) pos) (T' X xr W (tst G y))) : PW X (.BoolOp .Or (a :: b :: rest) pos) (T' X xr W (tst G (.orr x y))) := by
  refine pwM (pw_or ha hb) fun σ H Q => ?_
  rintro ⟨ρ, s, M, sim, sl, h⟩
  refine ⟨ρ, s, M, sim, sl, ?_⟩
  rw [tst_or] at h
  refine Rs.imp (Rs.bind h) fun k M1 ρ1 H1 x1 k1 s1 h1 => ?_
  cases k with
  | true =>
    rw [if_pos rfl] at h1 ⊢
    exact h1.now s1
  | false =>
    rw [if_neg Bool.false_ne_true] at h1 ⊢
    exact ⟨ρ1, s, M1, s1, sl.mono k1 x1, h1⟩
theorem t_cmp {a b : Expr} {o : CmpOp} {pos : Pos} {x y : Ir} (C : Ctx G xr W X N sc) (hm : behindInMarks o b = false) (ha : PE X a (E' X xr W (ev G x))) (hb : PE X b (E' X xr W (ev G y))) : PT X (.Compare a [o] [b] pos) (T' X xr W (tst G (.cmp (copOf o) x y))) := by
  refine ptM (pt_cmpR (pos := pos) (c_op (X := X) (xr := xr) (by have := C.un; omega) o) ha hb hm) fun σ H Q h => ?_
  refine tT_of (fun Q' => ?_) bl_cmp h
  rintro ⟨ρ, s, M, sim, sl, h⟩
  simp only [ev] at h
  refine ⟨ρ, s, M, sim, sl, Rs.imp (Rs.bind h) fun d M1 ρ1 H1 x1 k1 s1 h1 v r => ?_⟩
  refine ⟨ρ1, s, M1, s1, sl.mono k1 x1, Rs.imp (Rs.bind h1) fun e M2 ρ2 H2 x2 k2 s2 h2 w r2 => ?_⟩
  exact ⟨ρ2, M2, d, e, s2, RD.mono k2 x2 _ _ r, r2, h2.quiet (ofO_nx _ _)⟩
theorem t_ite {c a b : Expr} {pos : Pos} {z x y : Ir} (hc : PT X c (T' X xr W (tst G z))) (ha : PT X a (T' X xr W (tst G x))) (hb : PT X b (T' X xr W (tst G y))) : PT X (.IfExp c a b pos) (T' X xr W (tst G (.ite z x y))) := by
  refine ⟨fun pins s σ H Q I hw => ?_⟩
  obtain ⟨ρ, st, M, sim, sl, hw⟩ := hw
  have e : tst G (.ite z x y) st M = (tst G z st M).bind fun k M1 => if k = true then tst G x st M1 else tst G y st M1 := by
    simp only [tst, ev]
    cases ev G z st M with
    | ok d M1 =>
      simp only [Res.bind_ok]
      cases truth M1 d with
      | none => rfl
      | some k => cases k <;> rfl
    | exc _ _ => rfl
    | bad => rfl
  rw [e] at hw
  have hc' := hc.run pins s σ H (fun k H1 => if k = true then T' X xr W (tst G x) σ H1 Q else T' X xr W (tst G y) σ H1 Q) I ⟨ρ, st, M, sim, sl, Rs.imp (Rs.bind hw) fun k M1 ρ1 H1 x1 k1 s1 h1 => by
    cases k with
    | true => rw [if_pos rfl] at h1 ⊢; exact ⟨ρ1, st, M1, s1, sl.mono k1 x1, h1⟩
    | false => rw [if_neg Bool.false_ne_true] at h1 ⊢; exact ⟨ρ1, st, M1, s1, sl.mono k1 x1, h1⟩⟩
  show wpAny _ _ (do if ← isTrue c X.env (eval c X.env) then isTrue a X.env (eval a X.env) else isTrue b X.env (eval b X.env)) _ _ s
  refine wpAny_bind (thn hc' fun k s1 ⟨H1, I1, q1⟩ => ?_)
  cases k with
  | true => exact ha.run pins s1 σ H1 Q I1 q1
  | false => exact hb.run pins s1 σ H1 Q I1 q1
end
end Mp

set_option Elab.async false
set_option linter.all false
set_option maxRecDepth 100000
set_option maxHeartbeats 4000000
set_option autoImplicit false
namespace Mp
open PySem PySem.Spec L2
section
variable {G : Gl} {xr : XR} {W : WX} {X : Cx} {N : List Str} {sc : Names}
theorem t_chn {a b c : Expr} {o p : CmpOp} {pos : Pos} {x y z : Ir} (C : Ctx G xr W X N sc) (hm : lastMarks [o, p] [b, c] = false) (ha : PE X a (E' X xr W (ev G x))) (hb : PE X b (E' X xr W (ev G y))) (hc : PE X c (E' X xr W (ev G z))) :
    PT X (.Compare a [o, p] [b, c] pos) (T' X xr W (tst G (.chn (copOf o) (copOf p) x y z))) := by
  have hu : X.A.units + 64 < cLine := by have := C.un; omega
  refine ptM (pt_chain (pos := pos) (c_op (X := X) (xr := xr) hu o) (c_op (X := X) (xr := xr) hu p) ha hb hc hm) fun σ H Q h => ?_
  refine tT_of (fun Q' => ?_) bl_chn h
  exact chn_rd
/-! ### places -/
theorem plainIx {b : Expr} (h : ∀ lo hi st p, b ≠ .Slice lo hi st p) (h2 : ∀ es k p, b ≠ .Tuple es k p) : PlainIx b := by
  intro o i
  cases b <;> first
    | rfl
    | (exact absurd rfl (h _ _ _ _))
    | (exact absurd rfl (h2 _ _ _))
theorem kget_V {K : PySem.W.Frag} {ρ : List Addr} {H : Hp} {k : Key} {d : D} : ∀ {l : List (Key × D)} {kvs : List (Key × V)}, l.map (·.1) = kvs.map (·.1) → RDs K ρ H (l.map (·.2)) (kvs.map (·.2)) → kget l k = some d → ∃ v, valV kvs k = some v ∧ RD K ρ H d v
  | [], _, _, _, h => by cases h
  | (a, x) :: l, [], e, _, _ => by cases e
  | (a, x) :: l, (b, y) :: kvs, e, r, h => by
    simp only [List.map_cons, List.cons.injEq] at e
    obtain ⟨rfl, e⟩ := e
    simp only [List.map_cons] at r
    cases r with
    | cons r1 r2 =>
      unfold kget at h
      by_cases q : a = k
      · rw [List.find?_cons_of_pos (by simpa using q)] at h
        cases h
        exact ⟨y, valV_pos q, r1⟩
      · rw [List.find?_cons_of_neg (by simpa using q)] at h
        rw [valV_neg q]
        exact kget_V e r2 h
theorem ix_d (C : Ctx G xr W X N sc) : IxR X (rD X.K xr fun a i M => Res.ofO (idxD a i M) M) := by
  intro value slice pins s σ H x y v u Q I rx ry h hs
  obtain ⟨ρ, M, d, e, sim, rd', re, h⟩ := h
  obtain ⟨z, ez, q⟩ := h.ofO' sim
  have atv : ∀ {l : List D} {vs : List V} {k : Int}, RDs X.K ρ H l vs → atD l k = some z → ∃ w, atI vs k = some w ∧ RD X.K ρ H z w := by
    intro l vs k rs e
    unfold atD atI at e
    unfold atI
    rw [← rs.length]
    cases hj : ixN l.length k with
    | none => rw [hj] at e; cases e
    | some j =>
      rw [hj] at e
      exact rs.get e
  cases rd' with
  | tup hq hs' =>
    cases re <;> first | (cases ez; done) | skip
    obtain ⟨w, e1, rw'⟩ := atv hs' ez
    exact ix_tup value slice pins s σ H _ _ v u Q I rx ry ⟨_, _, _, w, rfl, rfl, hq, e1, q w rw'⟩ hs
  | fl hq hs' =>
    cases re <;> first | (cases ez; done) | skip
    obtain ⟨w, e1, rw'⟩ := atv hs' ez
    exact ix_list value slice pins s σ H _ _ v u Q I rx ry ⟨_, _, _, w, rfl, rfl, hq.sql, e1, q w rw'⟩ hs
  | ref ha =>
    rename_i n a
    simp only [idxD] at ez
    split at ez
    · rename_i l el
      split at ez
      · cases re
        obtain ⟨vs, rs, hl⟩ := sim.at el ha
        obtain ⟨w, e1, rw'⟩ := atv rs ez
        exact ix_list value slice pins s σ H _ _ v u Q I rx ry ⟨_, _, _, w, rfl, rfl, .of hl, e1, q w rw'⟩ hs
      · cases ez
    · rename_i l el
      split at ez
      · rename_i k ek
        obtain ⟨kvs, e1, rs, hl⟩ := sim.at el ha
        obtain ⟨w, ew, rw'⟩ := kget_V e1 rs ez
        have hk : y = kV k := by
          cases re <;> cases ek <;> rfl
        subst hk
        have g : DGet H a (kV k) (some w) := by rw [← ew]; exact DGet.k hl
        cases rx
        exact PyProof.Rows.tail_any (dict_typeIs I g) PySem.F.slot_dict_getitem.lookup (d_getItem (by have := C.un; omega) I g ry fun w' s3 I3 rw2 => ⟨w, H, I3, rw2, q w rw'⟩) hs
      · cases ez
    · cases ez
  | _ => cases ez
theorem n_idx {a i : Expr} {pos : Pos} {x y : Ir} (C : Ctx G xr W X N sc) (h1 : ∀ lo hi st p, i ≠ .Slice lo hi st p) (h2 : ∀ es k p, i ≠ .Tuple es k p) (ha : PE X a (E' X xr W (ev G x))) (hi : PE X i (E' X xr W (ev G y))) : PE X (.Subscript a i pos) (E' X xr W (ev G (.idx x y))) := by
  have := pe_bin (xr := xr) (o := fun a i M => Res.ofO (idxD a i M) M) (fun _ _ _ => ofO_nx _ _) (pe_ix (pos := pos) (ix_d C) ha hi (plainIx h1 h2))
  refine peM this fun σ H Q => ?_
  rintro ⟨ρ, s, M, sim, sl, h⟩
  exact ⟨ρ, s, M, sim, sl, by simpa only [ev] using h⟩
theorem cut_rds {K : PySem.W.Frag} {ρ : List Addr} {H : Hp} {l : List D} {vs : List V} {p q : Option Int} (rs : RDs K ρ H l vs) : RDs K ρ H (cutD l p q) (cutV vs p q) := by
  unfold cutD cutV
  rw [rs.length]
  exact (rs.drop _).take _
def rSlc (X : Cx) (xr : XR) : V → Option Int → Option Int → Hp → VK → Prop := fun x p q H Q => ∃ ρ M d, Sim X.K ρ M H ∧ RD X.K ρ H d x ∧ Rs X.K xr (fun _ _ _ _ => False) ρ H [] (slcD d p q M) fun z _ ρ' H' => ∀ v, RD X.K ρ' H' z v → Q v H'
theorem cut_full {α : Type} {l : List α} {p q : Option Int} (h : HT.sIx l.length 0 p = 0 ∧ HT.sIx l.length l.length q = l.length) : (l.drop (HT.sIx l.length 0 p)).take (HT.sIx l.length l.length q - HT.sIx l.length 0 p) = l := by
  rw [h.1, h.2]
  simp
theorem sl_d : SlR X (rSlc X xr) := by
  intro pins s σ H x v vl vu p q sl Q I rx hs pl pu h
  obtain ⟨ρ, M, d, sim, rd', h⟩ := h
  unfold slcD at h
  split at h
  · cases rd' with
    | tup hq hs' =>
      rename_i a vs
      refine sl_tupA pins s σ H _ v vl vu p q sl Q I rx hs pl pu ⟨a, vs, rfl, hq, fun e => ?_, fun _ => Rs.newTup sim h (cut_rds hs')⟩
      have e' : cutD _ p q = _ := cut_full (l := _) (by rw [← hs'.length] at e; exact e)
      rw [e'] at h
      exact h.now sim _ (.tup hq hs')
  · split at h
    · rename_i l el
      split at h
      · obtain ⟨a, vs, rfl, rs, w, _⟩ := sim.items el rd'
        exact sl_list pins s σ H _ v vl vu p q sl Q I rx hs pl pu ⟨a, vs, rfl, w, Rs.newLst sim h (cut_rds rs)⟩
      · exact h.elim
    · exact h.elim
theorem slc_nx (a : D) (p q : Option Int) (M : Mem) (e : Exn) (M' : Mem) : slcD a p q M ≠ .exc e M' := by
  intro h
  unfold slcD at h
  repeat' (first | (cases h; done) | split at h)
/-- a bound, or none -/
def O' (X : Cx) (xr : XR) (W : WX) (f : S → Mem → Res (Option Int)) : TO := fun σ H Q => ∃ ρ s M, Sim X.K ρ M H ∧ SL X.K ρ H s σ ∧ Rs X.K xr W ρ H σ (f s M) fun p _ _ H' => Q p H'
theorem o_non : PO X none (O' X xr W (evo G .non)) := ⟨fun pins s σ H Q I h => by
  obtain ⟨ρ, st, M, sim, sl, h⟩ := h
  exact po_none.run pins s σ H Q I (h.now sim)⟩
theorem o_som {e : Expr} {x : Ir} (he : PE X e (E' X xr W (ev G x))) : PO X (some e) (O' X xr W (evo G (.som x))) := ⟨fun pins s σ H Q I h => by
  obtain ⟨ρ, st, M, sim, sl, h⟩ := h
  simp only [evo] at h
  refine (po_some he).run pins s σ H Q I ⟨ρ, st, M, sim, sl, Rs.imp (Rs.bind h) fun d M1 ρ1 H1 x1 k1 s1 h1 v r => ?_⟩
  split at h1
  · cases r
    exact ⟨_, rfl, h1.now s1⟩
  · exact h1.elim⟩
theorem n_slc {a : Expr} {lo hi : Option Expr} {p2 pos : Pos} {x : Ir} {l h : Iro} (ha : PE X a (E' X xr W (ev G x))) (hl : PO X lo (O' X xr W (evo G l))) (hh : PO X hi (O' X xr W (evo G h))) : PE X (.Subscript a (.Slice lo hi none p2) pos) (E' X xr W (ev G (.slc x l h))) := by
  refine peM (pe_slice (sl_d (X := X) (xr := xr)) ha hl hh) fun σ H Q => ?_
  rintro ⟨ρ, s, M, sim, sl, h⟩
  simp only [ev] at h
  refine ⟨ρ, s, M, sim, sl, Rs.imp (Rs.bind h) fun d M1 ρ1 H1 x1 k1 s1 h1 v r => ?_⟩
  refine ⟨ρ1, s, M1, s1, sl.mono k1 x1, Rs.imp (Rs.bind h1) fun p M2 ρ2 H2 x2 k2 s2 h2 => ?_⟩
  refine ⟨ρ2, s, M2, s2, (sl.mono k1 x1).mono k2 x2, Rs.imp (Rs.bind h2) fun q M3 ρ3 H3 x3 k3 s3 h3 => ?_⟩
  exact ⟨ρ3, M3, d, s3, RD.mono k3 x3 _ _ (RD.mono k2 x2 _ _ r), h3.quiet (slc_nx d p q M3)⟩
/-! ### dicts written out -/
theorem dk_nx {ks : List Str} {l : List D} : True := trivial
theorem kV_str (s : Str) : kV (.inr s : Key) = .str s := rfl
theorem kput_V {K : PySem.W.Frag} {ρ : List Addr} {H : Hp} {k : Key} {d : D} {v : V} (r : RD K ρ H d v) {l : List (Key × D)} {kvs : List (Key × V)} (e : l.map (·.1) = kvs.map (·.1)) (rs : RDs K ρ H (l.map (·.2)) (kvs.map (·.2))) :
    (kput l k d).map (·.1) = (putK kvs k v).map (·.1) ∧ RDs K ρ H ((kput l k d).map (·.2)) ((putK kvs k v).map (·.2)) := by
  have any : ∀ {l : List (Key × D)} {kvs : List (Key × V)}, l.map (·.1) = kvs.map (·.1) → (l.any fun q => decide (q.1 = k)) = (kvs.any fun q => decide (q.1 = k)) := by
    intro l
    induction l with
    | nil => intro kvs e; cases kvs <;> first | rfl | (simp at e)
    | cons a l ih =>
      intro kvs e
      cases kvs with
      | nil => simp at e
      | cons b kvs =>
        simp only [List.map_cons, List.cons.injEq] at e
        rw [List.any_cons, List.any_cons, ih e.2, e.1]
  have mp : ∀ {l : List (Key × D)} {kvs : List (Key × V)}, l.map (·.1) = kvs.map (·.1) → RDs K ρ H (l.map (·.2)) (kvs.map (·.2)) →
      (l.map fun q => if q.1 = k then (q.1, d) else q).map (·.1) = (kvs.map fun q => if q.1 = k then (q.1, v) else q).map (·.1) ∧ RDs K ρ H ((l.map fun q => if q.1 = k then (q.1, d) else q).map (·.2)) ((kvs.map fun q => if q.1 = k then (q.1, v) else q).map (·.2)) := by
    intro l
    induction l with
    | nil => intro kvs e rs; cases kvs <;> first | exact ⟨rfl, .nil⟩ | (simp at e)
    | cons a l ih =>
      intro kvs e rs
      cases kvs with
      | nil => simp at e
      | cons b kvs =>
        simp only [List.map_cons, List.cons.injEq] at e
        simp only [List.map_cons] at rs
        cases rs with
        | cons r1 r2 =>
          obtain ⟨i1, i2⟩ := ih e.2 r2
          simp only [List.map_cons]
          by_cases h : a.1 = k
          · have h' : b.1 = k := e.1 ▸ h
            rw [if_pos h, if_pos h']
            exact ⟨by rw [i1, e.1], .cons r i2⟩
          · have h' : ¬ b.1 = k := fun z => h (e.1.trans z)
            rw [if_neg h, if_neg h']
            exact ⟨by rw [i1, e.1], .cons r1 i2⟩
  unfold kput putK
  rw [any e]
  split
  · exact mp e rs
  · simp only [List.map_append, List.map_cons, List.map_nil]
    exact ⟨by rw [e], rs.append (.cons r .nil)⟩
theorem dctOf_V {K : PySem.W.Frag} {ρ : List Addr} {H : Hp} : ∀ (ks : List Str) (ds : List D) (vs : List V) (a : List (Key × D)) (b : List (Key × V)), ds.length = ks.length → RDs K ρ H ds vs → a.map (·.1) = b.map (·.1) → RDs K ρ H (a.map (·.2)) (b.map (·.2)) →
    let p := (ks.zip ds).foldl (fun a p => kput a (.inr p.1) p.2) a
    let q := mergeK b ((ks.zip vs).map fun z => ((.inr z.1 : Key), z.2))
    p.map (·.1) = q.map (·.1) ∧ RDs K ρ H (p.map (·.2)) (q.map (·.2))
  | [], ds, vs, a, b, hl, rs, e, r => ⟨e, r⟩
  | k :: ks, ds, vs, a, b, hl, rs, e, r => by
    cases ds with
    | nil => cases hl
    | cons d ds =>
      cases rs with
      | cons r1 r2 =>
        obtain ⟨e', r'⟩ := kput_V (k := .inr k) r1 e r
        exact dctOf_V ks ds _ _ _ (by simpa using hl) r2 e' r'
end
end Mp

set_option Elab.async false
set_option linter.all false
set_option maxRecDepth 100000
set_option maxHeartbeats 4000000
set_option autoImplicit false
namespace Mp
open PySem PySem.Spec L2
section
variable {G : Gl} {xr : XR} {W : WX} {X : Cx} {N : List Str} {sc : Names}
/-- the pairs' readings -/
def trsOf (X : Cx) (xr : XR) (W : WX) (G : Gl) (f : Expr → Ir) : List Str → List Expr → List (TE × TE)
  | k :: ks, e :: es => (tC (.str k), E' X xr W (ev G (f e))) :: trsOf X xr W G f ks es
  | _, _ => []
theorem pps_of {f : Expr → Ir} {pos : Pos} : ∀ {keys : List (Option Expr)} {ks : List Str} {es : List Expr}, mapO (fun k => k.bind strC) keys = some ks → ks.length = es.length → (∀ e ∈ es, PE X e (E' X xr W (ev G (f e)))) → PPs X pos keys es (trsOf X xr W G f ks es)
  | [], ks, es, h, hl, _ => by
    cases h
    cases es with
    | nil => exact pps_nil
    | cons a es => cases hl
  | key :: keys, ks, es, h, hl, he => by
    unfold mapO at h
    split at h
    · rename_i k r h1 h2
      cases h
      cases es with
      | nil => cases hl
      | cons e es =>
        cases key with
        | none => cases h1
        | some ke =>
          have : ∃ j p, ke = .Constant (.str k) j p := by
            change strC ke = some k at h1
            unfold strC at h1
            split at h1
            · cases h1; exact ⟨_, _, rfl⟩
            · cases h1
          obtain ⟨j, p, rfl⟩ := this
          exact pps_cons pe_str (he e List.mem_cons_self) (pps_of h2 (by simpa using hl) fun e' h' => he e' (List.mem_cons_of_mem _ h'))
    · cases h
theorem tpairs_of {f : Expr → Ir} {s : S} {σ : L2.St} : ∀ (ks : List Str) (es : List Expr) (ρ : List Addr) (H : Hp) (M : Mem) (k : List (V × V) → Hp → Prop), ks.length = es.length → Sim X.K ρ M H → SL X.K ρ H s σ →
    (Rs X.K xr W ρ H σ (evs G (irs (es.map f)) s M) fun ds _ ρ' H' => ∀ vs, RDs X.K ρ' H' ds vs → k ((ks.zip vs).map fun z => (V.str z.1, z.2)) H') → tPairs (trsOf X xr W G f ks es) σ H k
  | [], [], ρ, H, M, k, _, sim, sl, h => by
    have := h.now sim [] .nil
    exact this
  | [], _ :: _, _, _, _, _, hl, _, _, _ => by cases hl
  | _ :: _, [], _, _, _, _, hl, _, _, _ => by cases hl
  | a :: ks, e :: es, ρ, H, M, k, hl, sim, sl, h => by
    simp only [List.map_cons, irs, evs] at h
    show tC (.str a) σ H fun x H1 => E' X xr W (ev G (f e)) σ H1 fun y H2 => tPairs (trsOf X xr W G f ks es) σ H2 fun ps H3 => k ((x, y) :: ps) H3
    refine ⟨ρ, s, M, sim, sl, Rs.imp (Rs.bind h) fun d M1 ρ1 H1 x1 k1 s1 h1 v r => ?_⟩
    refine tpairs_of ks es ρ1 H1 M1 _ (by simpa using hl) s1 (sl.mono k1 x1) (Rs.imp (Rs.bind h1) fun ds M2 ρ2 H2 x2 k2 s2 h2 vs rs => ?_)
    exact h2.now s2 (v :: vs) (.cons (RD.mono k2 x2 _ _ r) rs)
theorem n_dct {f : Expr → Ir} {pos : Pos} {keys : List (Option Expr)} {ks : List Str} {es : List Expr} (hk : mapO (fun k => k.bind strC) keys = some ks) (hl : ks.length = es.length) (hk15 : ks.length ≤ 15) (he : ∀ e ∈ es, PE X e (E' X xr W (ev G (f e)))) :
    PE X (.Dict keys es pos) (E' X xr W (ev G (.dct ks (irs (es.map f))))) := by
  have hlk := mapO_len hk
  by_cases h0 : keys = []
  · subst h0
    cases hk
    cases es with
    | cons _ _ => cases hl
    | nil =>
      refine peM pe_dnewK fun σ H Q => ?_
      rintro ⟨ρ, s, M, sim, sl, h⟩ p hp
      simp only [ev, List.map_nil, irs, evs, Res.bind_ok] at h
      rw [show (M ++ [MO.dct []])[M.length]? = some (.dct []) by simp] at h
      simp only [List.length_nil, true_and] at h
      rw [if_pos (by decide)] at h
      have e1 : (M ++ [MO.dct []]).set M.length (.dct (dctOf [] [])) = M ++ [.dct []] := by simp [dctOf]
      rw [e1] at h
      have kt : KT X.K H (upd H p (.dK [])) := KT.new hp
      refine h (ρ ++ [p]) _ PX.push kt (sim.new hp ⟨[], rfl, .nil, upd_same⟩) _ (.ref ?_)
      rw [← sim.len]; simp
  · have h15 : keys.length ≤ 15 := by omega
    · have hall : keys.all (·.isSome) = true := by
        clear hl he hlk h0 h15 hk15
        induction keys generalizing ks with
        | nil => rfl
        | cons a r ih =>
          unfold mapO at hk
          split at hk
          · rename_i b t h1 h2
            rw [List.all_cons, ih h2]
            cases a with
            | none => cases h1
            | some _ => rfl
          · cases hk
      refine peM (pe_disp (pps_of hk hl he) hall (by omega) h0 h15) fun σ H Q => ?_
      rintro ⟨ρ, s, M, sim, sl, h⟩ p hp
      simp only [ev] at h
      have kt : KT X.K H (upd H p (.dK [])) := KT.new hp
      have sim1 : Sim X.K (ρ ++ [p]) (M ++ [.dct []]) (upd H p (.dK [])) := sim.new hp ⟨[], rfl, .nil, upd_same⟩
      refine tpairs_of ks es (ρ ++ [p]) (upd H p (.dK [])) (M ++ [.dct []]) _ hl sim1 (sl.mono kt PX.push) (Rs.imp (Rs.bind (Rs.later h PX.push kt)) fun ds M1 ρ1 H1 x1 k1 s1 h1 vs rs => ?_)
      have hp1 : ρ1[M.length]? = some p := x1 _ _ (by rw [← sim.len]; simp)
      split at h1
      · rename_i em
        split at h1
        · rename_i hz
          obtain ⟨kvs, e1, _, q⟩ := s1.at em hp1
          have hnil : kvs = [] := by cases kvs <;> first | rfl | cases e1
          subst hnil
          have zl := rs.length
          refine ⟨q, (ks.zip vs).map fun z => ((.inr z.1 : Key), z.2), ?_, ?_, ?_⟩
          · rw [List.map_map]; rfl
          · rw [List.length_map, List.length_zip]; omega
          · obtain ⟨m1, m2⟩ := dctOf_V ks ds vs [] [] hz.1 rs rfl .nil
            have kt2 : KT X.K H1 (upd H1 p (.dK (mergeK [] ((ks.zip vs).map fun z => ((.inr z.1 : Key), z.2))))) := KT.write q (fun _ e => by cases e) (fun _ _ e => by cases e)
            refine h1 ρ1 _ PX.rfl' kt2 (s1.write hp1 q (fun _ e => by cases e) (fun _ _ e => by cases e) ⟨_, m1, RDs.mono kt2 PX.rfl' _ _ m2, upd_same⟩) _ (.ref hp1)
        · exact h1.elim
      · exact h1.elim
end
end Mp

set_option Elab.async false
set_option linter.all false
set_option maxRecDepth 100000
set_option maxHeartbeats 4000000
set_option autoImplicit false
namespace Mp
open PySem PySem.Spec L2
theorem bfn_nx (f : Bf) (l : List D) (M : Mem) (e : Exn) (M' : Mem) : bfn f l M ≠ .exc e M' := by
  intro h
  unfold bfn at h
  repeat' (first | (cases h; done) | (exact ofO_nx _ _ _ _ h) | split at h)
theorem mfn_nx (f : Mf) (o : D) (l : List D) (M : Mem) (e : Exn) (M' : Mem) : mfn f o l M ≠ .exc e M' := by
  intro h
  unfold mfn at h
  repeat' (first | (cases h; done) | split at h)
section
variable {G : Gl} {xr : XR} {W : WX} {X : Cx} {N : List Str} {sc : Names}
/-- one value -/
theorem one_of {ρ : List Addr} {H : Hp} {d : D} {xs : List V} (r : RDs X.K ρ H [d] xs) : ∃ x, xs = [x] ∧ RD X.K ρ H d x := by
  cases r with
  | cons r1 r2 => cases r2; exact ⟨_, rfl, r1⟩
theorem two_of {ρ : List Addr} {H : Hp} {d e : D} {xs : List V} (r : RDs X.K ρ H [d, e] xs) : ∃ x y, xs = [x, y] ∧ RD X.K ρ H d x ∧ RD X.K ρ H e y := by
  cases r with
  | cons r1 r2 =>
    obtain ⟨y, rfl, r3⟩ := one_of r2
    exact ⟨_, y, rfl, r1, r3⟩
abbrev rF (X : Cx) (xr : XR) (b : Bf) : List V → Hp → VK → Prop := rDs X.K xr (bfn b)
theorem b_len : CallR X (.builtin "len") (rF X xr .len) := by
  intro pins s σ H xs us Q I rv h
  obtain ⟨ρ, M, ds, sim, rs, h⟩ := h
  unfold bfn at h
  split at h <;> try contradiction
  · obtain ⟨x, rfl, r⟩ := one_of rs
    cases r with
    | tup hq hs => exact call_len_seq pins s σ H _ us Q I rv ⟨_, _, rfl, .inr hq, by rw [← hs.length]; exact h.now sim _ (.int _)⟩
  · obtain ⟨x, rfl, r⟩ := one_of rs
    cases r
    split at h
    · rename_i hz
      exact call_len pins s σ H _ us Q I rv ⟨_, _, rfl, ⟨hz, rfl⟩, h.now sim _ (.int _)⟩
    · exact h.elim
  · obtain ⟨x, rfl, r⟩ := one_of rs
    cases r with
    | ref ha =>
      split at h
      · rename_i l e
        obtain ⟨vs, r2, q⟩ := sim.at e ha
        exact call_len_seq pins s σ H _ us Q I rv ⟨_, _, rfl, .inl (.of q), by rw [← r2.length]; exact h.now sim _ (.int _)⟩
      · rename_i l e
        obtain ⟨kvs, e1, r2, q⟩ := sim.at e ha
        have hl := congrArg List.length e1
        simp only [List.length_map] at hl
        exact call_lenD pins s σ H _ us Q I rv ⟨_, kvs, rfl, q, by rw [← hl]; exact h.now sim _ (.int _)⟩
      · exact h.elim
  · obtain ⟨x, rfl, r⟩ := one_of rs
    cases r with
    | fl hq hs => exact call_len_seq pins s σ H _ us Q I rv ⟨_, _, rfl, .inl hq.sql, by rw [← hs.length]; exact h.now sim _ (.int _)⟩
/-- no dict is met, and how deep it is -/
theorem rd_shape {M : Mem} : ∀ (k : Nat) (d : D) (p : PyData), rd k M d = some p → p.hasDict = false ∧ p.depth ≤ k
  | 0, _, _, h => by cases h
  | k + 1, d, p, h => by
    have all : ∀ (l : List D) (ps : List PyData), mapO (rd k M) l = some ps → PyData.hasDictAll ps = false ∧ PyData.depthAll ps ≤ k := by
      intro l
      induction l with
      | nil => intro ps e; cases e; exact ⟨by simp only [PyData.hasDictAll], by simp only [PyData.depthAll]; omega⟩
      | cons a l ih =>
        intro ps e
        unfold mapO at e
        split at e
        · rename_i b s e1 e2
          cases e
          obtain ⟨h1, h2⟩ := rd_shape k a _ e1
          obtain ⟨h3, h4⟩ := ih _ e2
          exact ⟨by simp only [PyData.hasDictAll, h1, h3, Bool.or_self], by simp only [PyData.depthAll]; omega⟩
        · cases e
    unfold rd at h
    split at h
    · cases h; exact ⟨by simp only [PyData.hasDict], by simp only [PyData.depth]; omega⟩
    · cases h; exact ⟨by simp only [PyData.hasDict], by simp only [PyData.depth]; omega⟩
    · cases h; exact ⟨by simp only [PyData.hasDict], by simp only [PyData.depth]; omega⟩
    · cases h; exact ⟨by simp only [PyData.hasDict], by simp only [PyData.depth]; omega⟩
    · obtain ⟨ps, e, rfl⟩ := Option.map_eq_some_iff.mp h
      obtain ⟨h1, h2⟩ := all _ _ e
      exact ⟨by simp only [PyData.hasDict, h1], by simp only [PyData.depth]; omega⟩
    · split at h
      · obtain ⟨ps, e, rfl⟩ := Option.map_eq_some_iff.mp h
        obtain ⟨h1, h2⟩ := all _ _ e
        exact ⟨by simp only [PyData.hasDict, h1], by simp only [PyData.depth]; omega⟩
      · cases h
    · obtain ⟨ps, e, rfl⟩ := Option.map_eq_some_iff.mp h
      obtain ⟨h1, h2⟩ := all _ _ e
      exact ⟨by simp only [PyData.hasDict, h1], by simp only [PyData.depth]; omega⟩
theorem b_repr (C : Ctx G xr W X N sc) : CallR X (.builtin "repr") (rF X xr .repr) := by
  intro pins s σ H xs us Q I rv h
  obtain ⟨ρ, M, ds, sim, rs, h⟩ := h
  unfold bfn at h
  split at h <;> try contradiction
  · obtain ⟨x, rfl, r⟩ := one_of rs
    split at h
    · rename_i p e
      split at h
      · rename_i hz
        rw [Bool.and_eq_true] at hz
        have hsz := of_decide_eq_true hz.2
        obtain ⟨n1, n2⟩ := rd_shape _ _ _ e
        have hu := C.un
        obtain ⟨u, rfl, rx⟩ := vals1 rv
        have dp := dp_of sim _ _ _ _ e r
        obtain ⟨as, rr⟩ := Dp.reads I p x u dp rx
        have fin : ∀ (t tk : Nat) (h' : Heap), (∀ b o, s.heap.get? b = some o → h'.get? b = some o) → EP X pins σ Q (.str p.shown t) { s with heap := h', toks := tk } := fun t tk h' hk =>
          ⟨.str p.shown, H, I.kept (t' := tk) hk, ⟨t, rfl⟩, h.now sim _ (.str _)⟩
        cases rr with
        | none => exact PySem.P.repr_of_none (by simpa only [PyData.shown] using fin _ _ _ fun _ _ q => q)
        | bool b => exact PySem.P.repr_of_bool (by simpa only [PyData.shown] using fin _ _ _ fun _ _ q => q)
        | int i t => exact PySem.P.repr_of_int (by simpa only [PyData.showable, decide_eq_true_eq] using hz.1) (by simpa only [PyData.shown] using fin _ _ _ fun _ _ q => q)
        | str y t => exact PySem.P.repr_of_str (by simpa only [PyData.shown] using fin _ _ _ fun _ _ q => q) (by simpa only [PyData.shown] using hsz)
        | list h1 h2 h3 h4 => exact repr_of_reads' (Reads.list h1 h2 h3 h4) hz.1 (PyData.noDict_hsm n1) C.gd (by unfold deep at n2; omega) (fun _ _ q => q) (fun h' t tk hk => fin t tk h' hk) hsz
        | tuple h1 h2 h3 h4 => exact repr_of_reads' (Reads.tuple h1 h2 h3 h4) hz.1 (PyData.noDict_hsm n1) C.gd (by unfold deep at n2; omega) (fun _ _ q => q) (fun h' t tk hk => fin t tk h' hk) hsz
        | dict h1 h2 h3 h4 h5 => simp only [PyData.hasDict] at n1; cases n1
      · exact h.elim
    · exact h.elim
theorem b_tuple : CallR X (.type "tuple") (rF X xr .tuple) := by
  intro pins s σ H xs us Q I rv h
  obtain ⟨ρ, M, ds, sim, rs, h⟩ := h
  unfold bfn at h
  split at h <;> try contradiction
  · obtain ⟨x, rfl, r⟩ := one_of rs
    cases r with
    | tup hq hs => exact call_tuple_of pins s σ H _ us Q I rv ⟨_, _, rfl, .inr ⟨hq, h.now sim _ (.tup hq hs)⟩⟩
  · obtain ⟨x, rfl, r⟩ := one_of rs
    split at h
    · rename_i l e
      obtain ⟨a, vs, rfl, r2, w, _⟩ := sim.items e r
      exact call_tuple_of pins s σ H _ us Q I rv ⟨_, _, rfl, .inl ⟨w, Rs.newTup sim h r2⟩⟩
    · exact h.elim
theorem b_list : CallR X (.type "list") (rF X xr .list) := by
  intro pins s σ H xs us Q I rv h
  obtain ⟨ρ, M, ds, sim, rs, h⟩ := h
  unfold bfn at h
  split at h <;> try contradiction
  · obtain ⟨x, rfl, r⟩ := one_of rs
    cases r with
    | tup hq hs => exact call_list_of pins s σ H _ us Q I rv ⟨_, _, rfl, .inr hq, Rs.newLst sim h hs⟩
  · obtain ⟨x, rfl, r⟩ := one_of rs
    split at h
    · rename_i l e
      obtain ⟨a, vs, rfl, r2, w, _⟩ := sim.items e r
      exact call_list_of pins s σ H _ us Q I rv ⟨_, _, rfl, .inl w, Rs.newLst sim h r2⟩
    · exact h.elim
theorem sumD_V {K : PySem.W.Frag} {ρ : List Addr} {H : Hp} : ∀ {l : List D} {vs : List V} {n : Int}, sumD l = some n → RDs K ρ H l vs → ∃ ns : List Int, vs = ns.map V.int ∧ ns.sum = n
  | [], _, _, e, r => by cases r; cases e; exact ⟨[], rfl, rfl⟩
  | d :: l, _, n, e, r => by
    cases r with
    | cons r1 r2 =>
      cases d <;> first | (cases e; done) | skip
      unfold sumD at e
      obtain ⟨m, e1, rfl⟩ := Option.map_eq_some_iff.mp e
      obtain ⟨ns, rfl, rfl⟩ := sumD_V e1 r2
      cases r1
      exact ⟨_ :: ns, rfl, by rw [List.sum_cons]⟩
theorem b_sum (C : Ctx G xr W X N sc) : CallR X (.builtin "sum") (rF X xr .sum) := by
  intro pins s σ H xs us Q I rv h
  obtain ⟨ρ, M, ds, sim, rs, h⟩ := h
  unfold bfn at h
  split at h <;> try contradiction
  · obtain ⟨x, rfl, r⟩ := one_of rs
    split at h
    · rename_i l e
      obtain ⟨n, en, q⟩ := h.ofO sim
      obtain ⟨a, vs, rfl, r2, w, _⟩ := sim.items e r
      obtain ⟨ns, rfl, rfl⟩ := sumD_V en r2
      exact cr_sum C.calm pins s σ H _ us Q I rv ⟨a, ns, rfl, w, q _ (.int _)⟩
    · exact h.elim
theorem b_min2 (C : Ctx G xr W X N sc) : CallR X (.builtin "min") (rF X xr .min2) := by
  intro pins s σ H xs us Q I rv h
  obtain ⟨ρ, M, ds, sim, rs, h⟩ := h
  unfold bfn at h
  split at h <;> try contradiction
  · rename_i a b _
    obtain ⟨x, y, rfl, r1, r2⟩ := two_of rs
    cases r1; cases r2
    refine call_min2 C.calm pins s σ H _ us Q I rv ⟨_, _, rfl, ?_⟩
    have e : min a b = if b < a then b else a := by
      rw [Int.min_def]
      split <;> split <;> omega
    rw [← e]
    exact h.now sim _ (.int _)
theorem b_max2 (C : Ctx G xr W X N sc) : CallR X (.builtin "max") (rF X xr .max2) := by
  intro pins s σ H xs us Q I rv h
  obtain ⟨ρ, M, ds, sim, rs, h⟩ := h
  unfold bfn at h
  split at h <;> try contradiction
  · rename_i a b _
    obtain ⟨x, y, rfl, r1, r2⟩ := two_of rs
    cases r1; cases r2
    refine call_max2 C.calm pins s σ H _ us Q I rv ⟨_, _, rfl, ?_⟩
    have e : max a b = if b > a then b else a := by
      rw [Int.max_def]
      split <;> split <;> omega
    rw [← e]
    exact h.now sim _ (.int _)
theorem b_abs : CallR X (.builtin "abs") (rF X xr .abs) := by
  intro pins s σ H xs us Q I rv h
  obtain ⟨ρ, M, ds, sim, rs, h⟩ := h
  unfold bfn at h
  split at h <;> try contradiction
  · rename_i a _
    obtain ⟨x, rfl, r⟩ := one_of rs
    cases r
    refine call_abs pins s σ H _ us Q I rv ⟨_, rfl, ?_⟩
    have e : ((a.natAbs : Nat) : Int) = if a < 0 then -a else a := by split <;> omega
    rw [← e]
    exact h.now sim _ (.int _)
/-! ### calls of built-ins -/
theorem tcb_of {b : Bf} {l : Irs} {σ : L2.St} {H : Hp} {Q : VK} : E' X xr W (ev G (.blt b l)) σ H Q → tCB (rF X xr b) (L' X xr W (evs G l)) σ H Q := by
  rintro ⟨ρ, s, M, sim, sl, h⟩
  simp only [ev] at h
  refine ⟨ρ, s, M, sim, sl, Rs.imp (Rs.bind h) fun ds M1 ρ1 H1 x1 k1 s1 h1 vs rs => ?_⟩
  exact ⟨ρ1, M1, ds, s1, rs, h1.quiet (bfn_nx b ds M1)⟩
theorem n_bltB {b : Bf} {id : String} {f : Str} {p pos : Pos} {e : Expr} {es : List Expr} {l : Irs} (C : Ctx G xr W X N sc) (hc : CallR X (.builtin id) (rF X xr b)) (hg : L2.Gl X f) (hf : f ∈ bltNames) (hv : bootBuiltins f = some (.builtin id))
    (hs : (e :: es).any starred = false) (hn : f ≠ "__name__") (hd : (f == ("__debug__" : Str)) = false) (ha : PA X (e :: es) (L' X xr W (evs G l))) : PE X (.Call (.Name f p) (e :: es) [] pos) (E' X xr W (ev G (.blt b l))) := by
  rw [List.any_cons, Bool.or_eq_false_iff] at hs
  exact peM (pe_callB hc hg (C.blt f hf) hv ha hn hd (se_cons hs.1) (se_plain hs.2)) fun σ H Q => tcb_of
theorem n_bltT {b : Bf} {T : String} {f : Str} {p pos : Pos} {e : Expr} {es : List Expr} {l : Irs} (C : Ctx G xr W X N sc) (hc : CallR X (.type T) (rF X xr b)) (hg : L2.Gl X f) (hf : f ∈ bltNames) (hv : bootBuiltins f = some (.type T))
    (hs : (e :: es).any starred = false) (hn : f ≠ "__name__") (hd : (f == ("__debug__" : Str)) = false) (ha : PA X (e :: es) (L' X xr W (evs G l))) : PE X (.Call (.Name f p) (e :: es) [] pos) (E' X xr W (ev G (.blt b l))) := by
  rw [List.any_cons, Bool.or_eq_false_iff] at hs
  exact peM (pe_callTy hc hg (C.blt f hf) hv ha hn hd (se_cons hs.1) (se_plain hs.2)) fun σ H Q => tcb_of
/-! ### list(range(..)), tuple(range(..)) -/
theorem rg_eq {K : PySem.W.Frag} {ρ : List Addr} {H : Hp} (a b : Int) : RDs K ρ H (rangeD a b) (rgV a b) := by
  unfold rangeD rgV
  have : ∀ l : List Nat, RDs K ρ H (l.map fun i => D.int (a + (i : Nat))) (l.map fun i => V.int (a + (i : Nat))) := by
    intro l
    induction l with
    | nil => exact .nil
    | cons i l ih => exact .cons (.int _) ih
  exact this _
theorem rangeD_len (a b : Int) : (rangeD a b).length = (b - a).toNat := by unfold rangeD; rw [List.length_map, List.length_range]
/-- a range's bounds -/
def rgT (X : Cx) (xr : XR) (W : WX) (r : S → Mem → Res (List D)) : L2.St → Hp → (Int → Int → Hp → Prop) → Prop := fun σ H Q => ∃ ρ s M, Sim X.K ρ M H ∧ SL X.K ρ H s σ ∧ Rs X.K xr W ρ H σ (r s M) fun ds _ _ H' => ∃ a b, (ds = [.int b] ∧ a = 0 ∨ ds = [.int a, .int b]) ∧ Q a b H'
theorem prg_of {rs : List Expr} {l : Irs} {f : Str} {p pos : Pos} {x : Ir} {y : Ir} : True := trivial
theorem prg1 {e : Expr} {x : Ir} {p pos : Pos} (C : Ctx G xr W X N sc) (hg : L2.Gl X "range") (hs : starred e = false) (he : PE X e (E' X xr W (ev G x))) : PRg X (.Call (.Name "range" p) [e] [] pos) (rgT X xr W (evs G (.cons x .nil))) := by
  intro pins s σ H Q I h
  refine prg_1 hg (C.blt _ (by decide)) he (se_cons hs) pins s σ H Q I ?_
  obtain ⟨ρ, st, M, sim, sl, h⟩ := h
  simp only [evs] at h
  refine ⟨ρ, st, M, sim, sl, Rs.imp (Rs.bind h) fun d M1 ρ1 H1 x1 k1 s1 h1 v r => ?_⟩
  obtain ⟨a, b, e1, q⟩ := h1.now s1
  rcases e1 with ⟨e1, rfl⟩ | e1
  · cases e1
    cases r
    exact ⟨b, rfl, q⟩
  · cases e1
theorem prg2 {e e2 : Expr} {x y : Ir} {p pos : Pos} (C : Ctx G xr W X N sc) (hg : L2.Gl X "range") (hs : starred e = false) (hs2 : starred e2 = false) (he : PE X e (E' X xr W (ev G x))) (he2 : PE X e2 (E' X xr W (ev G y))) : PRg X (.Call (.Name "range" p) [e, e2] [] pos) (rgT X xr W (evs G (.cons x (.cons y .nil)))) := by
  intro pins s σ H Q I h
  refine prg_2 hg (C.blt _ (by decide)) he he2 (se_cons hs) (se_cons hs2) (se_plain (by rw [List.any_cons, hs2]; rfl)) pins s σ H Q I ?_
  obtain ⟨ρ, st, M, sim, sl, h⟩ := h
  simp only [evs] at h
  refine ⟨ρ, st, M, sim, sl, Rs.imp (Rs.bind h) fun d M1 ρ1 H1 x1 k1 s1 h1 v r => ?_⟩
  refine ⟨ρ1, st, M1, s1, sl.mono k1 x1, Rs.imp (Rs.bind (Rs.bind h1)) fun d2 M2 ρ2 H2 x2 k2 s2 h2 v2 r2 => ?_⟩
  have h3 := h2.now s2
  obtain ⟨a, b, e1, q⟩ := h3.now s2
  rcases e1 with ⟨e1, _⟩ | e1
  · cases e1
  · cases e1
    cases r
    cases r2
    exact ⟨a, b, rfl, rfl, q⟩
end
end Mp

set_option Elab.async false
set_option linter.all false
set_option maxRecDepth 100000
set_option maxHeartbeats 4000000
set_option autoImplicit false
namespace Mp
open PySem PySem.Spec L2
section
variable {G : Gl} {xr : XR} {W : WX} {X : Cx} {N : List Str} {sc : Names}
theorem range_ok {ds : List D} {x : List D} (h : rangeOf ds = some x) (hz : x.length ≤ 1000) {a b : Int} (hab : ds = [.int b] ∧ a = 0 ∨ ds = [.int a, .int b]) : x = rangeD a b ∧ RgOk a b := by
  rcases hab with ⟨rfl, rfl⟩ | rfl
  · unfold rangeOf wide62 at h
    simp only [decide_eq_true_eq] at h
    split at h
    · rename_i hw
      cases h
      rw [rangeD_len] at hz
      exact ⟨rfl, by decide, by decide, hw.1, hw.2, by omega⟩
    · cases h
  · unfold rangeOf wide62 at h
    simp only [Bool.and_eq_true, decide_eq_true_eq] at h
    split at h
    · rename_i hw
      cases h
      rw [rangeD_len] at hz
      exact ⟨rfl, hw.1.1, hw.1.2, hw.2.1, hw.2.2, by omega⟩
    · cases h
theorem rg_shape {ds x : List D} (h : rangeOf ds = some x) : ∃ a b, ds = [.int b] ∧ a = 0 ∨ ds = [.int a, .int b] := by
  unfold rangeOf at h
  split at h
  · exact ⟨0, _, .inl ⟨rfl, rfl⟩⟩
  · exact ⟨_, _, .inr rfl⟩
  · cases h
theorem n_tupR {e : Expr} {l : Irs} {p pos : Pos} (C : Ctx G xr W X N sc) (hg : L2.Gl X "tuple") (hs : starred e = false) (he : PRg X e (rgT X xr W (evs G l))) : PE X (.Call (.Name "tuple" p) [e] [] pos) (E' X xr W (ev G (.blt .tupleR l))) := by
  refine peM (pe_tupRg C.calm hg (C.blt _ (by decide)) he (se_cons hs)) fun σ H Q => ?_
  rintro ⟨ρ, s, M, sim, sl, h⟩
  simp only [ev] at h
  refine ⟨ρ, s, M, sim, sl, Rs.imp (Rs.bind h) fun ds M1 ρ1 H1 x1 k1 s1 h1 => ?_⟩
  unfold bfn at h1
  split at h1 <;> try contradiction
  · split at h1
    · rename_i x ex
      split at h1
      · rename_i hz
        obtain ⟨a, b, hab⟩ := rg_shape ex
        obtain ⟨rfl, ok⟩ := range_ok ex hz hab
        exact ⟨a, b, hab, ok, Rs.newTup s1 h1 (rg_eq a b)⟩
      · exact h1.elim
    · exact h1.elim
theorem n_lstR {e : Expr} {l : Irs} {p pos : Pos} (C : Ctx G xr W X N sc) (hg : L2.Gl X "list") (hs : starred e = false) (he : PRg X e (rgT X xr W (evs G l))) : PE X (.Call (.Name "list" p) [e] [] pos) (E' X xr W (ev G (.blt .listR l))) := by
  refine peM (pe_listRg C.calm hg (C.blt _ (by decide)) he (se_cons hs)) fun σ H Q => ?_
  rintro ⟨ρ, s, M, sim, sl, h⟩
  simp only [ev] at h
  refine ⟨ρ, s, M, sim, sl, Rs.imp (Rs.bind h) fun ds M1 ρ1 H1 x1 k1 s1 h1 => ?_⟩
  unfold bfn at h1
  split at h1 <;> try contradiction
  · split at h1
    · rename_i x ex
      split at h1
      · rename_i hz
        obtain ⟨a, b, hab⟩ := rg_shape ex
        obtain ⟨rfl, ok⟩ := range_ok ex hz hab
        exact ⟨a, b, hab, ok, Rs.newLst s1 h1 (rg_eq a b)⟩
      · exact h1.elim
    · exact h1.elim
/-! ### methods of lists -/
/-- a written list's new value -/
theorem Rs.setLst {ρ : List Addr} {H : Hp} {W' : WX} {σ : L2.St} {M : Mem} {n : Nat} {a : Addr} {l : List D} {vs vs' : List V} {d : D} {v : V} {Q : VK} (sim : Sim X.K ρ M H) (ha : ρ[n]? = some a) (hl : H a = some (.lst vs)) (r : RD X.K ρ H d v)
    (h : Rs X.K xr W' ρ H σ (.ok d (M.set n (.lst l))) fun z _ ρ' H' => ∀ v, RD X.K ρ' H' z v → Q v H') (rl : RDs X.K ρ H l vs') : Q v (upd H a (.lst vs')) := by
  have kt : KT X.K H (upd H a (.lst vs')) := KT.write hl (fun _ e => by cases e) (fun _ _ e => by cases e)
  exact h ρ _ PX.rfl' kt (sim.write ha hl (fun _ e => by cases e) (fun _ _ e => by cases e) ⟨vs', RDs.mono kt PX.rfl' _ _ rl, upd_same⟩) v (RD.mono kt PX.rfl' _ _ r)
def rM (X : Cx) (xr : XR) (m : Mf) : V → List V → Hp → VK → Prop := fun x xs H Q => ∃ ρ M d ds, Sim X.K ρ M H ∧ RD X.K ρ H d x ∧ RDs X.K ρ H ds xs ∧ Rs X.K xr (fun _ _ _ _ => False) ρ H [] (mfn m d ds M) fun z _ ρ' H' => ∀ v, RD X.K ρ' H' z v → Q v H'
theorem m_append : MtM X "list.append" (rM X xr .append) := by
  intro pins s σ H x xs v us Q I rx rxs h
  obtain ⟨ρ, M, d, ds, sim, r, rs, h⟩ := h
  unfold mfn at h
  split at h
  · split at h
    · rename_i l el
      split at h <;> try contradiction
      · split at h
        · rename_i hz
          obtain ⟨y, rfl, ry⟩ := one_of rs
          cases r with
          | ref ha =>
            obtain ⟨vs, r2, q⟩ := sim.at el ha
            have z1 := r2.length
            exact mt_append pins s σ H _ _ v us Q I rx rxs ⟨_, vs, y, rfl, rfl, q, by omega, Rs.setLst sim ha q .non h (r2.append (.cons ry .nil))⟩
        · exact h.elim
    · exact h.elim
  · exact h.elim
theorem rds_dropLast {K : PySem.W.Frag} {ρ : List Addr} {H : Hp} {l : List D} {vs : List V} (r : RDs K ρ H l vs) : RDs K ρ H l.dropLast vs.dropLast := by
  rw [List.dropLast_eq_take, List.dropLast_eq_take, r.length]
  exact r.take _
theorem rds_erase {K : PySem.W.Frag} {ρ : List Addr} {H : Hp} {l : List D} {vs : List V} (i : Nat) (r : RDs K ρ H l vs) : RDs K ρ H (l.eraseIdx i) (vs.eraseIdx i) := by
  rw [List.eraseIdx_eq_take_drop_succ, List.eraseIdx_eq_take_drop_succ]
  exact (r.take _).append (r.drop _)
theorem m_pop : MtM X "list.pop" (rM X xr .pop) := by
  intro pins s σ H x xs v us Q I rx rxs h
  obtain ⟨ρ, M, d, ds, sim, r, rs, h⟩ := h
  unfold mfn at h
  split at h
  · split at h
    · rename_i l el
      split at h <;> try contradiction
      · split at h
        · rename_i z hz
          cases rs
          cases r with
          | ref ha =>
            obtain ⟨vs, r2, q⟩ := sim.at el ha
            rw [List.getLast?_eq_getElem?] at hz
            obtain ⟨w, hw, rw'⟩ := r2.get hz
            rw [r2.length] at hw
            exact mt_pop pins s σ H _ _ v us Q I rx rxs ⟨_, vs, w, rfl, rfl, q, hw, Rs.setLst sim ha q rw' h (rds_dropLast r2)⟩
        · exact h.elim
    · exact h.elim
  · exact h.elim
theorem m_popAt : MtM X "list.pop" (rM X xr .popAt) := by
  intro pins s σ H x xs v us Q I rx rxs h
  obtain ⟨ρ, M, d, ds, sim, r, rs, h⟩ := h
  unfold mfn at h
  split at h
  · split at h
    · rename_i l el
      split at h <;> try contradiction
      · split at h
        · rename_i i _ hi
          split at h
          · rename_i z hz
            obtain ⟨y, rfl, ry⟩ := one_of rs
            cases ry
            cases r with
            | ref ha =>
              obtain ⟨vs, r2, q⟩ := sim.at el ha
              obtain ⟨w, hw, rw'⟩ := r2.get hz
              have z1 := r2.length
              have hk : seqIndex? i vs.length = some i.toNat := seqIndex_of hi.1 (by omega)
              exact mt_popAt pins s σ H _ _ v us Q I rx rxs ⟨_, vs, i, i.toNat, w, rfl, rfl, q, by omega, hi.2.2, hk, hw, Rs.setLst sim ha q rw' h (rds_erase _ r2)⟩
          · exact h.elim
        · exact h.elim
    · exact h.elim
  · exact h.elim
theorem isL_ty {ρ : List Addr} {H : Hp} {M : Mem} (sim : Sim X.K ρ M H) {d : D} {x : V} (h : isL M d = true) (r : RD X.K ρ H d x) : tyV X.K "list" x H := by
  unfold isL at h
  split at h
  · split at h
    · rename_i l e
      cases r with
      | ref ha =>
        obtain ⟨vs, _, q⟩ := sim.at e ha
        exact .inl ⟨rfl, vs, .of q⟩
    · cases h
  · cases h
theorem atb {o : Expr} {nm : Str} {env : Env} (h : bareCall o = false) : attributeBase o nm env (eval o env) = eval o env := by
  unfold attributeBase
  split
  · cases h
  · rfl
theorem n_mth1 {m : Mf} {id : String} {name : Str} {o e : Expr} {apos cpos : Pos} {x : Ir} {l : Irs} (slot : Slot "list" name id) (hty : typeOf (.builtin id) = pure (.type "method_descriptor")) (hm : MtM X id (rM X xr m)) (hb : bareCall o = false) (hl : (apos.endLine == cpos.line) = true) (hs : starred e = false)
    (ho : PE X o (E' X xr W (ev G x))) (ha : PA X [e] (L' X xr W (evs G l))) : PE X (.Call (.Attribute o name apos) [e] [] cpos) (E' X xr W (ev G (.mth m x l))) := by
  have hfew : ((backTo cpos (starEach [e] X.env)).all (fun x => !x.1) && (backToKw cpos (keywordEach [] X.env)).all (fun x => x.1.isSome) && decide ([e].length + ([] : List Keyword).length + (if ([] : List Keyword).isEmpty then 0 else 1) < 30)) = true := by
    rw [se_cons hs]; rfl
  refine peM (pe_bm PySem.F.plainAttrs_list slot hty hm ho ha (atb hb) hfew hl (se_cons hs) rfl) fun σ H Q => ?_
  rintro ⟨ρ, s, M, sim, sl, h⟩
  simp only [ev] at h
  refine ⟨ρ, s, M, sim, sl, Rs.imp (Rs.bind h) fun d M1 ρ1 H1 x1 k1 s1 h1 v r => ?_⟩
  split at h1
  · rename_i hL
    refine ⟨isL_ty s1 hL r, ρ1, s, M1, s1, sl.mono k1 x1, Rs.imp (Rs.bind h1) fun ds M2 ρ2 H2 x2 k2 s2 h2 vs rs => ?_⟩
    exact ⟨ρ2, M2, d, ds, s2, RD.mono k2 x2 _ _ r, rs, h2.quiet (mfn_nx m d ds M2)⟩
  · exact h1.elim
theorem n_mth0 {m : Mf} {id : String} {name : Str} {o : Expr} {apos cpos : Pos} {x : Ir} (slot : Slot "list" name id) (hty : typeOf (.builtin id) = pure (.type "method_descriptor")) (hm : MtM X id (rM X xr m)) (hb : bareCall o = false) (hl : (apos.endLine == cpos.line) = true)
    (ho : PE X o (E' X xr W (ev G x))) : PE X (.Call (.Attribute o name apos) [] [] cpos) (E' X xr W (ev G (.mth m x .nil))) := by
  refine peM (pe_bm0 PySem.F.plainAttrs_list slot hty hm ho (atb hb) hl) fun σ H Q => ?_
  rintro ⟨ρ, s, M, sim, sl, h⟩
  simp only [ev, evs, Res.bind_ok] at h
  refine ⟨ρ, s, M, sim, sl, Rs.imp (Rs.bind h) fun d M1 ρ1 H1 x1 k1 s1 h1 v r => ?_⟩
  split at h1
  · rename_i hL
    exact ⟨isL_ty s1 hL r, ρ1, M1, d, [], s1, r, .nil, h1.quiet (mfn_nx m d [] M1)⟩
  · exact h1.elim
/-! ### calls of defs -/
theorem n_call0 {f : Str} {p pos : Pos} (C : Ctx G xr W X N sc) (hg : L2.Gl X f) (hd : (f == ("__debug__" : Str)) = false) : PE X (.Call (.Name f p) [] [] pos) (E' X xr W (ev G (.call f .nil [] .nil))) := by
  refine ⟨fun pins s σ H Q I h => ?_⟩
  obtain ⟨ρ, st, M, sim, sl, h⟩ := h
  simp only [ev, evs, Res.bind_ok] at h
  cases hk : G.known f with
  | false => rw [hk, if_pos rfl] at h; exact h.elim
  | true =>
    rw [hk, if_neg (by decide), if_pos (show ([] : List D).length = ([] : List Str).length from rfl)] at h
    obtain ⟨a, hm, kp, cs⟩ := C.call f hk
    exact wpAny_Call_Name_kw (ld_glob I hg hm (PySem.W.callWith_K0 I.kIn kp (cs pins s σ H Q [] [] [] [] [] ρ M [] [] I .nil .nil rfl sim .nil .nil h)) hd)
theorem n_call {f : Str} {p pos : Pos} {e : Expr} {es : List Expr} {l : Irs} (C : Ctx G xr W X N sc) (hg : L2.Gl X f) (hd : (f == ("__debug__" : Str)) = false) (hs : (e :: es).any starred = false) (ha : PA X (e :: es) (L' X xr W (evs G l))) : PE X (.Call (.Name f p) (e :: es) [] pos) (E' X xr W (ev G (.call f l [] .nil))) := by
  refine ⟨fun pins s σ H Q I h => ?_⟩
  obtain ⟨ρ, st, M, sim, sl, h⟩ := h
  simp only [ev, evs, Res.bind_ok] at h
  cases hk : G.known f with
  | false => rw [hk, if_pos rfl] at h; exact h.elim
  | true =>
    rw [hk, if_neg (by decide)] at h
    obtain ⟨a, hm, kp, cs⟩ := C.call f hk
    refine wpAny_Call_Name_kw (ld_glob I hg hm ?_ hd)
    rw [List.any_cons, Bool.or_eq_false_iff] at hs
    refine PySem.W.callWith_K (h₀ := X.base) I.ok.mod.kin kp (thn (ha.run pos pins s σ H (fun vs H1 => ∃ ρ1 M1 ds, Sim X.K ρ1 M1 H1 ∧ RDs X.K ρ1 H1 ds vs ∧ Rs X.K xr W ρ1 H1 σ (G.call f ds [] M1) fun d _ ρ' H' => ∀ v, RD X.K ρ' H' d v → Q v H') I ⟨ρ, st, M, sim, sl, Rs.imp (Rs.bind h) fun ds M1 ρ1 H1 x1 k1 s1 h1 vs rs => ?_⟩) fun us s1 ⟨vs, H1, I1, rv, ρ1, M1, ds, s1', rs, q⟩ => ⟨I1.kIn, cs pins s1 σ H1 Q us [] vs [] [] ρ1 M1 ds [] I1 rv .nil rfl s1' rs .nil q⟩) (se_cons hs.1) (se_plain hs.2)
    rw [if_pos (show ([] : List D).length = ([] : List Str).length from rfl)] at h1
    exact ⟨ρ1, M1, ds, s1, rs, h1⟩
/-! ### keywords -/
theorem kw_names : ∀ {kws : List Keyword} {ks : List Str} {pos : Pos} {env : Env}, mapO kwName kws = some ks → (backToKw pos (keywordEach kws env)).all (·.1.isSome) = true ∧ (backToKw pos (keywordEach kws env)).filterMap (·.1) = ks ∧ (backToKw pos (keywordEach kws env)).any (·.1.isNone) = false
  | [], ks, _, _, h => by cases h; exact ⟨rfl, rfl, rfl⟩
  | k :: kws, ks, pos, env, h => by
    unfold mapO at h
    split at h
    · rename_i a r h1 h2
      cases h
      obtain ⟨nm, v, p⟩ := k
      cases nm with
      | none => cases h1
      | some nm =>
        cases h1
        obtain ⟨i1, i2, i3⟩ := kw_names (pos := pos) (env := env) h2
        refine ⟨?_, ?_, ?_⟩
        · show (true && (backToKw pos (keywordEach kws env)).all (·.1.isSome)) = true
          rw [i1]; rfl
        · exact congrArg (List.cons _) i2
        · show (false || (backToKw pos (keywordEach kws env)).any (·.1.isNone)) = false
          rw [i3]; rfl
    · cases h
theorem n_kws {f : Expr → Ir} : ∀ {kws : List Keyword}, (∀ k ∈ kws, PE X k.value (E' X xr W (ev G (f k.value)))) → PK X kws (L' X xr W (evs G (irs (kws.map fun k => f k.value))))
  | [], _ => ⟨fun pos pins s σ H Q I h => by
    obtain ⟨ρ, st, M, sim, sl, h⟩ := h
    exact pk_nil.run pos pins s σ H Q I (h.now sim [] .nil)⟩
  | ⟨nm, v, p⟩ :: kws, h => ⟨fun pos pins s σ H Q I hw => by
    obtain ⟨ρ, st, M, sim, sl, hw⟩ := hw
    simp only [List.map_cons, irs, evs] at hw
    refine (pk_cons (h ⟨nm, v, p⟩ List.mem_cons_self) (n_kws fun k hk => h k (List.mem_cons_of_mem _ hk))).run pos pins s σ H Q I ?_
    refine ⟨ρ, st, M, sim, sl, Rs.imp (Rs.bind hw) fun d M1 ρ1 H1 x1 k1 s1 h1 v r => ?_⟩
    refine ⟨ρ1, st, M1, s1, sl.mono k1 x1, Rs.imp (Rs.bind h1) fun l M2 ρ2 H2 x2 k2 s2 h2 vs rs => ?_⟩
    exact h2.now s2 _ (.cons (RD.mono k2 x2 _ _ r) rs)⟩
/-- f(.., k = v, ..) -/
theorem n_callK {f : Str} {p pos : Pos} {es : List Expr} {kws : List Keyword} {ks : List Str} {l lk : Irs} (C : Ctx G xr W X N sc) (hg : L2.Gl X f) (hd : (f == ("__debug__" : Str)) = false) (hs : es.any starred = false) (hk' : mapO kwName kws = some ks) (h0 : es = [] → l = .nil)
    (ha : PA X es (L' X xr W (evs G l))) (hkw : PK X kws (L' X xr W (evs G lk))) : PE X (.Call (.Name f p) es kws pos) (E' X xr W (ev G (.call f l ks lk))) := by
  refine ⟨fun pins s σ H Q I h => ?_⟩
  obtain ⟨ρ, st, M, sim, sl, h⟩ := h
  simp only [ev] at h
  cases hk : G.known f with
  | false => rw [hk, if_pos rfl] at h; exact h.elim
  | true =>
    rw [hk, if_neg (by decide)] at h
    obtain ⟨a, hm, kp, cs⟩ := C.call f hk
    obtain ⟨k1, k2, k3⟩ := kw_names (pos := pos) (env := X.env) hk'
    refine wpAny_Call_Name_kw (ld_glob I hg hm ?_ hd)
    -- what the keywords' part asks, behind the positional values
    have fin : ∀ (us : List Value) (s1 : Shared) (vs : List V) (H1 : Hp) (ρ1 : List Addr) (M1 : Mem) (ds : List D), Inv X pins σ H1 s1 → Vals vs us → Sim X.K ρ1 M1 H1 → SL X.K ρ1 H1 st σ → RDs X.K ρ1 H1 ds vs →
        (Rs X.K xr W ρ1 H1 σ ((evs G lk st M1).bind fun es M2 => if es.length = ks.length then G.call f ds (ks.zip es) M2 else .bad) fun d _ ρ' H' => ∀ v, RD X.K ρ' H' d v → Q v H') →
        wpAny (model X.prog X.w) X.A (evalAll ((backToKw pos (keywordEach kws X.env)).map (·.2))) (fun ws s2 => X.K.In s2.heap ∧ wpAny (model X.prog X.w) X.A (PySem.call (.ref a) us (((backToKw pos (keywordEach kws X.env)).filterMap (·.1)).zip ws)) (EP X pins σ Q) X.xe s2) X.xe s1 := by
      intro us s1 vs H1 ρ1 M1 ds I1 rv s1' sl1 rs q
      rw [k2]
      refine thn (hkw.run pos pins s1 σ H1 (fun zs H2 => ∃ ρ2 M2 es, Sim X.K ρ2 M2 H2 ∧ RDs X.K ρ2 H2 ds vs ∧ RDs X.K ρ2 H2 es zs ∧ es.length = ks.length ∧ Rs X.K xr W ρ2 H2 σ (G.call f ds (ks.zip es) M2) fun d _ ρ' H' => ∀ v, RD X.K ρ' H' d v → Q v H') I1 ⟨ρ1, st, M1, s1', sl1, Rs.imp (Rs.bind q) fun es M2 ρ2 H2 x2 kt2 s2 h2 zs rz => ?_⟩) fun ws s2 ⟨zs, H2, I2, rz, ρ2, M2, es, s2', rs2, re, hl, q2⟩ => ⟨I2.kIn, cs pins s2 σ H2 Q us ws vs zs ks ρ2 M2 ds es I2 rv rz hl s2' rs2 re q2⟩
      split at h2
      · rename_i hl
        exact ⟨ρ2, M2, es, s2, RDs.mono kt2 x2 _ _ rs, rz, hl, h2⟩
      · exact h2.elim
    cases es with
    | nil =>
      have e0 := h0 rfl
      subst e0
      simp only [evs, Res.bind_ok] at h
      refine PySem.W.callWith_KW0 (h₀ := X.base) I.ok.mod.kin kp k1 ?_ (by rw [k3]; rfl)
      exact fin [] s [] H ρ M [] I .nil sim sl .nil h
    | cons e es =>
      rw [List.any_cons, Bool.or_eq_false_iff] at hs
      refine PySem.W.callWith_KW (h₀ := X.base) I.ok.mod.kin kp k1 (thn (ha.run pos pins s σ H (fun vs H1 => ∃ ρ1 M1 ds, Sim X.K ρ1 M1 H1 ∧ SL X.K ρ1 H1 st σ ∧ RDs X.K ρ1 H1 ds vs ∧
        (Rs X.K xr W ρ1 H1 σ ((evs G lk st M1).bind fun es M2 => if es.length = ks.length then G.call f ds (ks.zip es) M2 else .bad) fun d _ ρ' H' => ∀ v, RD X.K ρ' H' d v → Q v H')) I ⟨ρ, st, M, sim, sl, Rs.imp (Rs.bind h) fun ds M1 ρ1 H1 x1 kt1 s1 h1 vs rs => ⟨ρ1, M1, ds, s1, sl.mono kt1 x1, rs, h1⟩⟩) fun us s1 ⟨vs, H1, I1, rv, ρ1, M1, ds, s1', sl1, rs, q⟩ => fin us s1 vs H1 ρ1 M1 ds I1 rv s1' sl1 rs q) ?_ (se_cons hs.1)
      rw [k3, se_cons hs.1]
      show ((false || (backTo pos (starEach es X.env)).any (·.1)) || false) = false
      rw [se_plain hs.2]; rfl
end
end Mp

set_option Elab.async false
set_option linter.all false
set_option maxRecDepth 100000
set_option maxHeartbeats 4000000
set_option autoImplicit false
namespace Mp
open PySem PySem.Spec L2
def sortsOf : List String := ["NoneType", "bool", "int", "str", "tuple", "list", "dict"]
def askedOf : List String := ["int", "bool", "tuple", "list", "str", "dict"]
theorem kit_all : ∀ a ∈ sortsOf, ∀ b ∈ askedOf, kitB a b = some (a == b || (a == "bool" && b == "int")) := by decide +kernel
section
variable {G : Gl} {xr : XR} {W : WX} {X : Cx} {N : List Str} {sc : Names}
theorem ty_of {ρ : List Addr} {H : Hp} {M : Mem} (sim : Sim X.K ρ M H) {d : D} {x : V} {n : String} (h : tyNames d M = some n) (r : RD X.K ρ H d x) : TyX X.K H x (.type n) ∧ n ∈ sortsOf := by
  unfold tyNames at h
  cases r with
  | non => cases h; exact ⟨.base .non, by decide⟩
  | bl b => cases h; exact ⟨.base (.bl b), by decide⟩
  | int i => cases h; exact ⟨.base (.int i), by decide⟩
  | str y => cases h; exact ⟨.base (.str y), by decide⟩
  | tup hq hs =>
    cases h
    refine ⟨?_, by decide⟩
    rcases hq with (hq | ⟨o, hq⟩) | ⟨o, its, k, hq, hc, _⟩
    · exact .base (.tup hq)
    · exact .fTuple hq
    · exact .kTuple hq hc
  | ref ha =>
    simp only at h
    split at h
    · rename_i l e
      cases h
      obtain ⟨vs, rs, q⟩ := sim.at e ha
      exact ⟨.base (.lst q), by decide⟩
    · rename_i l e
      cases h
      obtain ⟨kvs, e1, rs, q⟩ := sim.at e ha
      exact ⟨.base (.dK q), by decide⟩
    · cases h
  | fl hq hs =>
    cases h
    refine ⟨?_, by decide⟩
    rcases hq with ⟨o, hq⟩ | ⟨its, k, hq, _⟩
    · exact .base (.frz hq)
    · exact .kList hq rfl
theorem boots : ∀ t x, typeName t = some x → bootBuiltins t = some (.type x) ∧ t ∈ bltNames ∧ x ∈ askedOf ∧ t ≠ "__name__" ∧ (t == ("__debug__" : Str)) = false := by
  intro t x h
  unfold typeName at h
  repeat' (first | (cases h; done) | split at h)
  all_goals (rename_i e; subst e; cases h; exact ⟨by decide +kernel, by decide, by decide, by decide, by decide⟩)
theorem n_isi {a : Expr} {t : Str} {n : String} {p p2 pos : Pos} {x : Ir} (C : Ctx G xr W X N sc) (hg : L2.Gl X "isinstance") (hg2 : L2.Gl X t) (ht : typeName t = some n) (hs : starred a = false) (ha : PE X a (E' X xr W (ev G x))) :
    PE X (.Call (.Name "isinstance" p) [a, .Name t p2] [] pos) (E' X xr W (ev G (.isi x [n]))) := by
  obtain ⟨b1, b2, b3, b4, b5⟩ := boots t n ht
  have pt : PE X (.Name t p2) (tC (.ty n)) := pe_bltn hg2 (C.blt t b2) b1 rfl b4 b5
  refine peM (pe_callB (call_isi (X := X)) hg (C.blt _ (by decide)) (by decide +kernel) (pa_cons ha (pa_cons pt pa_nil) (se_cons hs)) (by decide) (by decide) (se_cons hs) rfl) fun σ H Q => ?_
  rintro ⟨ρ, s, M, sim, sl, h⟩
  simp only [ev] at h
  refine ⟨ρ, s, M, sim, sl, Rs.imp (Rs.bind h) fun d M1 ρ1 H1 x1 k1 s1 h1 v r => ?_⟩
  unfold mapO at h1
  unfold mapO at h1
  unfold isiD at h1
  cases hd : tyNames d M1 with
  | none => rw [hd] at h1; exact h1.elim
  | some a' =>
    rw [hd] at h1
    obtain ⟨t1, t2⟩ := ty_of s1 hd r
    refine ⟨v, .ty n, .type a', .type n, _, rfl, .ty n, t1, kit_ty (kit_all a' t2 n b3), ?_⟩
    have q := h1.now s1 _ (.bl _)
    simpa using q

/-! ### what is walked -/
/-- J walks what it says, from the store as it was -/
def JOk (K : PySem.W.Frag) (J : L2.It) (it : It) (ρ0 : List Addr) (H0 : Hp) : Prop := ∀ (ρ : List Addr) (M : Mem) (H : Hp), PX ρ0 ρ → KT K H0 H → Sim K ρ M H → ∀ l, it.now M = some l →
  (∀ i, i < l.length → J.go i H) ∧ J.stop l.length H ∧ ∀ i x H', i < l.length → J.yld i H x H' → ∃ d, l[i]? = some d ∧ KT K H H' ∧ Sim K ρ M H' ∧ RD K ρ H' d x
def I' (X : Cx) (xr : XR) (W : WX) (f : S → Mem → Res It) : TI := fun σ H R => ∃ ρ s M, Sim X.K ρ M H ∧ SL X.K ρ H s σ ∧ Rs X.K xr W ρ H σ (f s M) fun it _ ρ' H' => ∀ J, JOk X.K J it ρ' H' → R J H'
theorem piM {tg iter : Expr} {w w' : TI} (h : PI X tg iter w) (f : ∀ σ H R, w' σ H R → w σ H R) : PI X tg iter w' := ⟨fun pins s σ H R I q => h.run pins s σ H R I (f σ H R q)⟩
theorem j_list {ρ0 : List Addr} {H0 : Hp} {n : Nat} {a : Addr} (ha : ρ0[n]? = some a) : JOk X.K (Itl X.K a) (.one (.lst n)) ρ0 H0 := by
  intro ρ M H x k sim l hl
  obtain ⟨vs, rs, q⟩ := sim.list (show listAt M n = some l from hl) (x _ _ ha)
  have z := rs.length
  refine ⟨fun i hi => ⟨vs, vs[i]'(by omega), .of q, List.getElem?_eq_getElem _⟩, ⟨vs, .of q, by omega⟩, fun i v H' hi hy => ?_⟩
  obtain ⟨rfl, hy⟩ := hy
  obtain ⟨d, e, r⟩ := rs.get' (hy vs (.of q))
  exact ⟨d, e, KT.rfl', sim, r⟩
theorem j_tup {ρ0 : List Addr} {H0 : Hp} {a : Addr} {l : List D} {vs : List V} (hq : SqT X.K H0 a vs) (rs : RDs X.K ρ0 H0 l vs) : JOk X.K (Itt X.K a) (.one (.snap l)) ρ0 H0 := by
  intro ρ M H x k sim l' hl
  cases hl
  have q := k.1 _ _ hq
  have rs := RDs.mono k x _ _ rs
  have z := rs.length
  refine ⟨fun i hi => ⟨vs, vs[i]'(by omega), q, List.getElem?_eq_getElem _⟩, ⟨vs, q, by omega⟩, fun i v H' hi hy => ?_⟩
  obtain ⟨rfl, hy⟩ := hy
  obtain ⟨d, e, r⟩ := rs.get' (hy vs q)
  exact ⟨d, e, KT.rfl', sim, r⟩
theorem j_fl {ρ0 : List Addr} {H0 : Hp} {a : Addr} {l : List D} {vs : List V} (hq : FL X.K H0 a vs) (rs : RDs X.K ρ0 H0 l vs) : JOk X.K (Itl X.K a) (.one (.snap l)) ρ0 H0 := by
  intro ρ M H x k sim l' hl
  cases hl
  have q := (FL.mono k hq).sql
  have rs := RDs.mono k x _ _ rs
  have z := rs.length
  refine ⟨fun i hi => ⟨vs, vs[i]'(by omega), q, List.getElem?_eq_getElem _⟩, ⟨vs, q, by omega⟩, fun i v H' hi hy => ?_⟩
  obtain ⟨rfl, hy⟩ := hy
  obtain ⟨d, e, r⟩ := rs.get' (hy vs q)
  exact ⟨d, e, KT.rfl', sim, r⟩
theorem j_rng {ρ0 : List Addr} {H0 : Hp} (a b : Int) : JOk X.K (L2.Itr a (b - a).toNat) (.one (.snap (rangeD a b))) ρ0 H0 := by
  intro ρ M H x k sim l hl
  cases hl
  rw [rangeD_len]
  refine ⟨fun i hi => hi, Nat.le_refl _, fun i v H' hi hy => ?_⟩
  obtain ⟨rfl, rfl⟩ := hy
  refine ⟨.int (a + (i : Nat)), ?_, KT.rfl', sim, .int _⟩
  unfold rangeD
  rw [List.getElem?_map, List.getElem?_range hi]
  rfl
/-- a list or a tuple, whichever comes -/
theorem pi_any {tg l : Expr} {tl : TE} (hl : PE X l tl) : PI X tg l (fun σ H R => tl σ H fun x H1 => ∃ a, x = .ref a ∧ ((∃ xs, SqL X.K H1 a xs) ∧ R (Itl X.K a) H1 ∨ (∃ xs, SqT X.K H1 a xs) ∧ R (Itt X.K a) H1)) := by
  refine ⟨fun pins s σ H R I h => ?_⟩
  refine thn (hl.run pins s σ H _ I h) fun v s1 ⟨x, H1, I1, r1, a, e1, q⟩ => ?_
  subst e1
  cases r1
  rcases q with ⟨⟨xs, hq⟩, q⟩ | ⟨⟨xs, hq⟩, q⟩
  · obtain ⟨its, rv, p, hz⟩ := I1.list hq
    exact wpAny_pyIter_list p.isList (pi_one I1 _ (turn_list a _) ⟨_, Heap.get?_push_size _ rfl, rfl, rfl⟩ q)
  · obtain ⟨its, rv, p, hz⟩ := I1.tuple hq
    exact wpAny_pyIter_tuple (show s1.heap.IsTuple a its.toArray from p) (pi_one I1 _ (turn_tuple a _) ⟨_, Heap.get?_push_size _ rfl, rfl, rfl⟩ q)
theorem i_e {tg e : Expr} {x : Ir} (he : PE X e (E' X xr W (ev G x))) : PI X tg e (I' X xr W (evi G (.e x))) := by
  refine piM (pi_any he) fun σ H R => ?_
  rintro ⟨ρ, s, M, sim, sl, h⟩
  simp only [evi] at h
  refine ⟨ρ, s, M, sim, sl, Rs.imp (Rs.bind h) fun d M1 ρ1 H1 x1 k1 s1 h1 v r => ?_⟩
  obtain ⟨sr, e1, q⟩ := h1.ofO s1
  unfold srcOf at e1
  cases r with
  | tup hq hs => cases e1; exact ⟨_, rfl, .inr ⟨⟨_, hq⟩, q _ (j_tup hq hs)⟩⟩
  | ref ha =>
    simp only at e1
    split at e1
    · rename_i l el
      cases e1
      obtain ⟨vs, rs, hl⟩ := s1.list el ha
      exact ⟨_, rfl, .inl ⟨⟨vs, .of hl⟩, q _ (j_list ha)⟩⟩
    · cases e1
  | fl hq hs => cases e1; exact ⟨_, rfl, .inl ⟨⟨_, hq.sql⟩, q _ (j_fl hq hs)⟩⟩
  | _ => cases e1
theorem i_rng1 {tg a : Expr} {p pos : Pos} {l : Irs} (C : Ctx G xr W X N sc) (hg : L2.Gl X "range") (hs : starred a = false) (ha : PA X [a] (L' X xr W (evs G l))) (hl : ∃ x, l = .cons x .nil) : PI X tg (.Call (.Name "range" p) [a] [] pos) (I' X xr W (evi G (.rng l))) := by
  refine piM (pi_range1 hg (C.blt _ (by decide)) ha (by rw [se_cons hs]; rfl)) fun σ H R => ?_
  rintro ⟨ρ, s, M, sim, sl, h⟩
  obtain ⟨y, rfl⟩ := hl
  simp only [evi] at h
  refine ⟨ρ, s, M, sim, sl, ?_⟩
  have one : ∀ {ds : List D} {M1 : Mem}, evs G (.cons y .nil) s M = .ok ds M1 → ∃ d, ds = [d] := by
    intro ds M1 e
    simp only [evs] at e
    cases e2 : ev G y s M with
    | ok d M2 => rw [e2] at e; simp only [Res.bind_ok] at e; cases e; exact ⟨d, rfl⟩
    | exc _ _ => rw [e2] at e; cases e
    | bad => rw [e2] at e; cases e
  cases e : evs G (.cons y .nil) s M with
  | exc _ _ => rw [e] at h; exact h
  | bad => rw [e] at h; exact h
  | ok ds M1 =>
    obtain ⟨d, rfl⟩ := one e
    rw [e] at h
    intro ρ1 H1 x1 k1 s1 vs rs
    obtain ⟨r, er, q⟩ := (Rs.later h x1 k1).ofO s1
    unfold rangeOf at er
    split at er
    · rename_i j ej
      cases ej
      split at er
      · rename_i hw
        unfold wide62 at hw
        have hw := of_decide_eq_true hw
        cases er
        obtain ⟨v, rfl, rv⟩ := one_of rs
        cases rv
        exact ⟨j, rfl, hw.1, hw.2, q _ (by have := j_rng (X := X) (ρ0 := ρ1) (H0 := H1) 0 j; rwa [show (j - 0).toNat = j.toNat by omega] at this)⟩
      · cases er
    · rename_i ej; cases ej
    · cases er
theorem i_rng2 {tg a b : Expr} {p pos : Pos} {l : Irs} (C : Ctx G xr W X N sc) (hg : L2.Gl X "range") (hs : starred a = false) (hs2 : starred b = false) (ha : PA X [a, b] (L' X xr W (evs G l))) (hl : ∃ x y, l = .cons x (.cons y .nil)) : PI X tg (.Call (.Name "range" p) [a, b] [] pos) (I' X xr W (evi G (.rng l))) := by
  refine piM (pi_range2 hg (C.blt _ (by decide)) ha (by rw [se_cons hs, se_cons hs2]; rfl) (by rw [se_cons hs2]; rfl)) fun σ H R => ?_
  rintro ⟨ρ, s, M, sim, sl, h⟩
  obtain ⟨y, z, rfl⟩ := hl
  simp only [evi] at h
  refine ⟨ρ, s, M, sim, sl, ?_⟩
  have one : ∀ {ds : List D} {M1 : Mem}, evs G (.cons y (.cons z .nil)) s M = .ok ds M1 → ∃ d e, ds = [d, e] := by
    intro ds M1 e
    simp only [evs] at e
    cases e2 : ev G y s M with
    | ok d M2 =>
      rw [e2] at e
      simp only [Res.bind_ok] at e
      cases e3 : ev G z s M2 with
      | ok d2 M3 => rw [e3] at e; simp only [Res.bind_ok] at e; cases e; exact ⟨d, d2, rfl⟩
      | exc _ _ => rw [e3] at e; cases e
      | bad => rw [e3] at e; cases e
    | exc _ _ => rw [e2] at e; cases e
    | bad => rw [e2] at e; cases e
  cases e : evs G (.cons y (.cons z .nil)) s M with
  | exc _ _ => rw [e] at h; exact h
  | bad => rw [e] at h; exact h
  | ok ds M1 =>
    obtain ⟨d, d2, rfl⟩ := one e
    rw [e] at h
    intro ρ1 H1 x1 k1 s1 vs rs
    obtain ⟨r, er, q⟩ := (Rs.later h x1 k1).ofO s1
    unfold rangeOf at er
    split at er
    · rename_i ej; cases ej
    · rename_i i j ej
      cases ej
      split at er
      · rename_i hw
        rw [Bool.and_eq_true] at hw
        unfold wide62 at hw
        have hw1 := of_decide_eq_true hw.1
        have hw2 := of_decide_eq_true hw.2
        cases er
        obtain ⟨v, v2, rfl, rv, rv2⟩ := two_of rs
        cases rv; cases rv2
        exact ⟨i, j, rfl, ⟨hw1.1, hw1.2, hw2.1, hw2.2⟩, q _ (j_rng i j)⟩
      · cases er
    · cases er
end
end Mp

set_option Elab.async false
set_option linter.all false
set_option maxRecDepth 100000
set_option maxHeartbeats 4000000
set_option autoImplicit false
namespace Mp
open PySem PySem.Spec L2
section
variable {G : Gl} {xr : XR} {W : WX} {X : Cx} {N : List Str} {sc : Names}
/-! ### a block's context -/
theorem lookup_mem {α β : Type} [BEq α] [LawfulBEq α] {l : List (α × β)} {a : α} {b : β} (h : l.lookup a = some b) : (a, b) ∈ l := by
  induction l with
  | nil => cases h
  | cons p l ih =>
    obtain ⟨x, y⟩ := p
    rw [List.lookup_cons] at h
    split at h
    · rename_i e
      cases h
      have := eq_of_beq e
      subst this
      exact List.mem_cons_self
    · exact List.mem_cons_of_mem _ (ih h)
theorem relS_names {scope s0 : Scope} {x : Str} {k : NameKind} (h : scope.names.lookup x = some k) (hu : ∀ y ∈ scope.names, scope.names.lookup y.1 = some y.2) :
    (k ≠ .free → (relS scope s0).names.lookup x = some k) ∧ (k = .free → (relS scope s0).names.lookup x = some .free ∨ (relS scope s0).names.lookup x = some .cell) := by
  refine ⟨fun hk => lookup_relS_keep hk h, fun hk => ?_⟩
  subst hk
  have : ∀ {l : List (Str × NameKind)}, l.lookup x = some .free → (l.map fun (n, k) => if (k == NameKind.free && s0.kind == .function && s0.names.lookup n == some .cell) then (n, NameKind.cell) else (n, k)).lookup x = some .free ∨
      (l.map fun (n, k) => if (k == NameKind.free && s0.kind == .function && s0.names.lookup n == some .cell) then (n, NameKind.cell) else (n, k)).lookup x = some .cell := by
    intro l
    induction l with
    | nil => intro h; cases h
    | cons p l ih =>
      intro h
      obtain ⟨n, k⟩ := p
      rw [List.lookup_cons] at h
      rw [List.map_cons]
      split at h
      · rename_i e
        cases h
        simp only
        split
        · right; rw [List.lookup_cons, e]
        · left; rw [List.lookup_cons, e]
      · rename_i e
        simp only
        split
        · rw [List.lookup_cons, e]; exact ih h
        · rw [List.lookup_cons, e]; exact ih h
  exact this h
theorem blk_ctx {scope : Scope} (C : Ctx G xr W X N sc) (hb : blkB sc scope = true) (s : Shared) (H : Hp) (c : Addr) (cl : List (Str × Addr)) (fp : List Addr) :
    Ctx G xr (fun _ _ _ _ => False) (X.blk s H scope (compEnvC scope cl c X.env) fp) N scope.names := by
  unfold blkB at hb
  simp only [Bool.and_eq_true, List.all_eq_true, decide_eq_true_eq] at hb
  obtain ⟨⟨h1, h2⟩, h3⟩ := hb
  have hk : scope.kind = .function := by
    split at h1
    · rename_i e; exact e
    · cases h1
  have fnd : (X.blk s H scope (compEnvC scope cl c X.env) fp).env.scope = relS scope X.env.scope := rfl
  refine ⟨C.hN, C.nd, C.calm, by rw [fnd]; exact hk, fun x h => ?_, fun x h => ?_, fun x h => ?_, fun x h => ?_, fun x h => ?_, C.un, C.gd, C.blt, C.glob, takes0, C.fns⟩
  · rw [fnd]
    unfold vis at h
    split at h
    · rename_i e; exact .inl ((relS_names e h2).1 (by decide))
    · rename_i e; exact .inr (.inl ((relS_names e h2).1 (by decide)))
    · rename_i e
      rcases (relS_names (s0 := X.env.scope) e h2).2 rfl with q | q
      · exact .inr (.inr q)
      · exact .inr (.inl q)
    · cases h
  · unfold glo at h
    have e : scope.names.lookup x = some .globalImplicit := by simpa using h
    show (relS scope X.env.scope).names.lookup x = some .globalImplicit
    exact (relS_names e h2).1 (by decide)
  · rw [fnd]
    unfold stob at h
    split at h
    · rename_i e
      have q := (relS_names (s0 := X.env.scope) e h2).1 (by decide)
      exact ⟨.inl q, .inr q⟩
    · rename_i e
      have q := (relS_names (s0 := X.env.scope) e h2).1 (by decide)
      refine ⟨.inr q, .inl ?_⟩
      show (scope.names.lookup x == some .cell) = true
      rw [e]; rfl
    · cases h
  · rw [fnd]
    rcases h with e | e
    · exact .inl ((relS_names e h2).1 (by decide))
    · exact ((relS_names (s0 := X.env.scope) e h2).2 rfl).symm
  · rw [fnd]
    exact (relS_names h h2).1 (by decide)
theorem slot_ix {x : Str} {i : Nat} (h : slotOf N x = some i) : N[i]? = some x := by
  unfold slotOf at h
  split at h
  · rename_i hl
    cases h
    rw [List.getElem?_eq_getElem hl]
    exact congrArg some (List.getElem_idxOf hl)
  · cases h
theorem own_ok {scope : Scope} {vs : List Nat} (C : Ctx G xr W X N sc) (hb : blkB sc scope = true) (hv : mapO (slotOf N) (ownOf scope) = some vs) : BlkOk X.N X.env.scope scope ((ownOf scope).zip vs) := by
  unfold blkB at hb
  simp only [Bool.and_eq_true, List.all_eq_true, decide_eq_true_eq] at hb
  obtain ⟨⟨h1, h2⟩, h3⟩ := hb
  have hk : scope.kind = .function := by
    split at h1
    · rename_i e; exact e
    · cases h1
  refine ⟨hk, h2, fun p hp => ?_, fun y hy e => ?_, fun y hy e => ?_⟩
  · rw [C.hN]
    have : ∀ {l : List Str} {vs : List Nat}, mapO (slotOf N) l = some vs → ∀ p ∈ l.zip vs, N[p.2]? = some p.1 := by
      intro l
      induction l with
      | nil => intro vs _ p hp; cases hp
      | cons a l ih =>
        intro vs h p hp
        unfold mapO at h
        split at h
        · rename_i b r e1 e2
          cases h
          rcases List.mem_cons.mp hp with q | q
          · subst q; exact slot_ix e1
          · exact ih e2 p q
        · cases h
    exact this hv p hp
  · have q := h3 y hy
    rw [e] at q
    simp only at q
    split at q
    · rename_i e'; exact C.cap y.1 (.inl e')
    · rename_i e'; exact C.cap y.1 (.inr e')
    · cases q
  · left
    have hm : y.1 ∈ ownOf scope := by
      unfold ownOf
      refine List.mem_map.mpr ⟨y, List.mem_filter.mpr ⟨hy, ?_⟩, rfl⟩
      rcases e with e | e <;> rw [e] <;> rfl
    rw [List.map_fst_zip (Nat.le_of_eq (mapO_len hv).symm)]
    exact hm
/-! ### targets -/
/-- a target's reading -/
def gT (K : PySem.W.Frag) : Tg → TG
  | .n i => gName i
  | .t l => gTup K l.length (l.foldr (fun i u => gCons (gName i) u) gNil)
theorem p_name {e : Expr} {i : Nat} (C : Ctx G xr W X N sc) (h : stoOf sc N e = some i) : PG X e (gName i) := by
  unfold stoOf at h
  split at h
  · split at h
    · rename_i x p hs
      obtain ⟨s1, s2⟩ := C.sto x hs
      exact pg_name (by rw [C.hN]; exact C.nd) (by rw [C.hN]; exact slot_ix h) s1 s2
    · cases h
  · cases h
theorem sto_plain {e : Expr} {i : Nat} (h : stoOf sc N e = some i) : ∃ x p, e = .Name x p := by
  unfold stoOf at h
  split at h
  · exact ⟨_, _, rfl⟩
  · cases h
theorem ae_cons {e : Expr} {es : List Expr} {env : Env} {i : Nat} (h : stoOf sc N e = some i) : assignEach (e :: es) env = (false, assign e env) :: assignEach es env := by
  obtain ⟨x, p, rfl⟩ := sto_plain h
  rfl
theorem p_tup : ∀ {es : List Expr} {l : List Nat}, Ctx G xr W X N sc → mapO (stoOf sc N) es = some l → PGs X es (l.foldr (fun i u => gCons (gName i) u) gNil) ∧ (assignEach es X.env).length = l.length ∧ (assignEach es X.env).findIdx? (·.1) = none
  | [], l, _, h => by cases h; exact ⟨pgs_nil, rfl, rfl⟩
  | e :: es, l, C, h => by
    unfold mapO at h
    split at h
    · rename_i i r e1 e2
      cases h
      obtain ⟨h1, h2, h3⟩ := p_tup C e2
      refine ⟨pgs_cons (p_name C e1) h1 (by rw [ae_cons e1]; rfl), by rw [ae_cons e1]; simp [h2], ?_⟩
      rw [ae_cons e1, List.findIdx?_cons]
      simp [h3]
    · cases h
theorem p_tg {e : Expr} {t : Tg} (C : Ctx G xr W X N sc) (h : tgOf sc N e = some t) : PG X e (gT X.K t) := by
  unfold tgOf at h
  split at h
  · obtain ⟨i, e1, rfl⟩ := Option.map_eq_some_iff.mp h
    exact p_name C e1
  · obtain ⟨l, e1, rfl⟩ := Option.map_eq_some_iff.mp h
    obtain ⟨h1, h2, h3⟩ := p_tup C e1
    exact pg_tup C.calm h1 h2 h3
  · cases h
theorem SL.set {ρ : List Addr} {H : Hp} {s : S} {σ : L2.St} {i : Nat} {d : D} {v : V} (h : SL X.K ρ H s σ) (r : RD X.K ρ H d v) : SL X.K ρ H (s.set i (some d)) (σ.set i (some v)) := ⟨by simp [h.len], fun j e q => by
  by_cases hj : i = j
  · subst hj
    have hi : i < s.length := by have := get_lt q; simpa using this
    have hl := h.len
    rw [List.getElem?_set_self hi] at q
    cases q
    exact ⟨v, by rw [List.getElem?_set_self (by omega)], r⟩
  · rw [List.getElem?_set_ne hj] at q ⊢
    exact h.get j e q⟩
/-- a target takes a value; the slots at vs are forgotten the same -/
theorem g_ok {t : Tg} {d : D} {v : V} {s s1 : S} {σ : L2.St} {ρ : List Addr} {H : Hp} {Q : L2.St → Hp → Prop} (h : bindT t d s = some s1) (r : RD X.K ρ H d v) (sn : SL X.K ρ H s σ)
    (q : ∀ σ1, SL X.K ρ H s1 σ1 → (∀ vs : List Nat, (∀ i ∈ t.slots, i ∈ vs) → wipe σ1 vs = wipe σ vs) → Q σ1 H) : gT X.K t v σ H Q := by
  have wipe_set : ∀ (vs : List Nat) (σ : L2.St) (i : Nat) (x : Option V), i ∈ vs → wipe (σ.set i x) vs = wipe σ vs := by
    intro vs
    have comm : ∀ (vs : List Nat) (σ : L2.St) (i : Nat) (x : Option V), i ∉ vs → wipe (σ.set i x) vs = (wipe σ vs).set i x := by
      intro vs
      induction vs with
      | nil => intro σ i x _; rfl
      | cons a vs ih =>
        intro σ i x hi
        simp only [List.mem_cons, not_or] at hi
        show (wipe (σ.set i x) vs).set a none = ((wipe σ vs).set a none).set i x
        rw [ih σ i x hi.2, List.set_comm _ _ (fun e => hi.1 e)]
    induction vs with
    | nil => intro σ i x h; cases h
    | cons a vs ih =>
      intro σ i x hi
      show (wipe (σ.set i x) vs).set a none = (wipe σ vs).set a none
      by_cases hm : i ∈ vs
      · rw [ih σ i x hm]
      · have ha : i = a := (List.mem_cons.mp hi).resolve_right hm
        subst ha
        rw [comm vs σ i x hm, List.set_set]
  cases t with
  | n i =>
    cases h
    exact q _ (sn.set r) fun vs hv => wipe_set vs σ i _ (hv i (by simp [Tg.slots]))
  | t l =>
    cases r with
    | tup hq rs =>
      rename_i a xs ds
      change (if l.length = ds.length then some ((l.zip ds).foldl (fun s p => s.set p.1 (some p.2)) s) else none) = some s1 at h
      split at h
      · rename_i hl
        cases h
        have zl := rs.length
        refine ⟨a, xs, rfl, hq, by omega, ?_⟩
        have go : ∀ (l : List Nat) (ds : List D) (xs : List V) (s : S) (σ : L2.St), l.length = ds.length → RDs X.K ρ H ds xs → SL X.K ρ H s σ →
            (∀ σ1, SL X.K ρ H ((l.zip ds).foldl (fun s p => s.set p.1 (some p.2)) s) σ1 → (∀ vs : List Nat, (∀ i ∈ l, i ∈ vs) → wipe σ1 vs = wipe σ vs) → Q σ1 H) → (l.foldr (fun i u => gCons (gName i) u) gNil) xs σ H Q := by
          intro l
          induction l with
          | nil =>
            intro ds xs s σ hl rs sn q
            cases ds with
            | nil => cases rs; exact ⟨rfl, q σ sn fun _ _ => rfl⟩
            | cons _ _ => cases hl
          | cons i l ih =>
            intro ds xs s σ hl rs sn q
            cases ds with
            | nil => cases hl
            | cons d ds =>
              cases rs with
              | cons r1 r2 =>
                refine ⟨_, _, rfl, ih ds _ (s.set i (some d)) _ (by simpa using hl) r2 (sn.set r1) fun σ1 sn1 w => q σ1 sn1 fun vs hv => ?_⟩
                rw [w vs fun j hj => hv j (List.mem_cons_of_mem _ hj)]
                exact wipe_set vs σ i _ (hv i List.mem_cons_self)
        exact go l ds xs s σ hl rs sn fun σ1 sn1 w => q σ1 sn1 fun vs hv => w vs hv
      · cases h
    | _ => cases h
end
end Mp

set_option Elab.async false
set_option linter.all false
set_option maxRecDepth 100000
set_option maxHeartbeats 4000000
set_option autoImplicit false
namespace Mp
open PySem PySem.Spec L2
section
variable {G : Gl} {xr : XR} {W : WX} {X : Cx} {N : List Str} {sc : Names}
abbrev W0 : WX := fun _ _ _ _ => False
theorem wipe_idem (σ : L2.St) (vs : List Nat) : wipe (wipe σ vs) vs = wipe σ vs := by
  have comm : ∀ (us : List Nat) (σ : L2.St) (i : Nat), wipe (σ.set i none) us = (wipe σ us).set i none := by
    intro us
    induction us with
    | nil => intro σ i; rfl
    | cons a us ih =>
      intro σ i
      show (wipe (σ.set i none) us).set a none = ((wipe σ us).set a none).set i none
      rw [ih]
      by_cases h : i = a
      · subst h; rfl
      · rw [List.set_comm _ _ h]
  induction vs generalizing σ with
  | nil => rfl
  | cons a vs ih =>
    show (wipe ((wipe σ vs).set a none) vs).set a none = (wipe σ vs).set a none
    rw [comm, ih, List.set_set]
theorem wipe_SL {ρ : List Addr} {H : Hp} {s : S} {σ : L2.St} (h : SL X.K ρ H s σ) : ∀ vs : List Nat, SL X.K ρ H (wipeS s vs) (wipe σ vs)
  | [] => h
  | v :: vs => by
    have ih := wipe_SL h vs
    refine ⟨by simp [wipeS, wipe, ih.len], fun i d e => ?_⟩
    change ((wipeS s vs).set v none)[i]? = some (some d) at e
    show ∃ w, ((wipe σ vs).set v none)[i]? = some (some w) ∧ _
    by_cases hi : v = i
    · subst hi
      by_cases hv : v < (wipeS s vs).length
      · rw [List.getElem?_set_self hv] at e; cases e
      · rw [List.getElem?_eq_none (by simpa using hv)] at e; cases e
    · rw [List.getElem?_set_ne hi] at e ⊢
      exact ih.get i d e
/-- the tests of a comprehension -/
theorem n_ifs {f : Expr → Ir} {ifs : List Expr} (h1 : ¬ 1 < ifs.length) (h : ∀ e ∈ ifs, PT X e (T' X xr W (tst G (f e)))) : PTs X ifs (T' X xr W (evc G (irs (ifs.map f)))) := by
  match ifs, h1, h with
  | [], _, _ => exact ⟨fun pins s σ H Q I hw => by
      obtain ⟨ρ, st, M, sim, sl, hw⟩ := hw
      exact pts_nil.run pins s σ H Q I (hw.now sim)⟩
  | [e], _, h =>
    exact ⟨fun pins s σ H Q I hw => by
      obtain ⟨ρ, st, M, sim, sl, hw⟩ := hw
      refine (pts_one (h e List.mem_cons_self)).run pins s σ H Q I ⟨ρ, st, M, sim, sl, ?_⟩
      have e1 : evc G (irs ([e].map f)) st M = tst G (f e) st M := by
        simp only [List.map_cons, List.map_nil, irs, evc, tst]
        cases ev G (f e) st M with
        | ok d M1 =>
          simp only [Res.bind_ok]
          cases truth M1 d with
          | none => rfl
          | some k => cases k <;> rfl
        | exc _ _ => rfl
        | bad => rfl
      rwa [e1] at hw⟩
  | _ :: _ :: _, h1, _ => exact absurd (by simp) h1
theorem item_some {it : It} {M : Mem} {n k : Nat} {x : D} (h : it.item M n k = some x) : ∃ l, it.now M = some l ∧ l.length = n ∧ l[n - k]? = some x := by
  unfold It.item at h
  split at h
  · rename_i l e
    split at h
    · rename_i hl; exact ⟨l, e, hl, h⟩
    · cases h
  · cases h
theorem ends_some {it : It} {M : Mem} {n : Nat} (h : it.ends M n = true) : ∃ l, it.now M = some l ∧ l.length = n := by
  unfold It.ends at h
  split at h
  · rename_i l e; exact ⟨l, e, of_decide_eq_true h⟩
  · cases h
theorem n_lc {elt tg iter : Expr} {ifs : List Expr} {scope : Scope} {vs : List Nat} {t : Tg} {it : Itr} {ci : Irs} {x : Ir} (C : Ctx G xr W X N sc) (hb : blkB sc scope = true) (hv : mapO (slotOf N) (ownOf scope) = some vs) (ht : ∀ i ∈ t.slots, i ∈ vs)
    (hi : PI X tg iter (I' X xr W (evi G it)))
    (hg : ∀ (s : Shared) (H : Hp) (c : Addr) (cl : List (Str × Addr)) (fp : List Addr), PG (X.blk s H scope (compEnvC scope cl c X.env) fp) tg (gT X.K t))
    (hc : ∀ (s : Shared) (H : Hp) (c : Addr) (cl : List (Str × Addr)) (fp : List Addr), PTs (X.blk s H scope (compEnvC scope cl c X.env) fp) ifs (tT X.K xr W0 (evc G ci)))
    (he : ∀ (s : Shared) (H : Hp) (c : Addr) (cl : List (Str × Addr)) (fp : List Addr), PE (X.blk s H scope (compEnvC scope cl c X.env) fp) elt (tE X.K xr W0 (ev G x)))
    (hs : ∀ y, foldedSetIterable iter X.env y = pure y) : ∀ σ H Q, E' X xr W (ev G (.lc vs t it ci x)) σ H Q → tLc (I' X xr W (evi G it)) (gT X.K t) (tT X.K xr W0 (evc G ci)) (tE X.K xr W0 (ev G x)) vs σ H Q := by
  intro σ H Q
  rintro ⟨ρ, s, M, sim, sl, h⟩
  simp only [ev] at h
  refine ⟨ρ, s, M, sim, sl, Rs.imp (Rs.bind h) fun i M1 ρ1 H1 x1 k1 s1 h1 J hJ => ?_⟩
  intro D hD
  cases hl : i.now M1 with
  | none => rw [hl] at h1; exact h1.elim
  | some l =>
    rw [hl] at h1
    simp only at h1
    generalize hst : (fun (y : Mp.D) (M2 : Mem) => (match bindT t y (wipeS s vs) with
        | none => (Res.bad : Res (Option Mp.D))
        | some s' => (evc G ci s' M2).bind fun b M3 => if b = true then (ev G x s' M3).bind fun y M4 => .ok (some y) M4 else .ok none M3)) = step at h1
    -- the list that grows stands in the store, behind all else
    have kt : KT X.K H1 (upd H1 D (.lst [])) := KT.new hD
    have sim0 : Sim X.K (ρ1 ++ [D]) (M1 ++ [.lst []]) (upd H1 D (.lst [])) := s1.new hD ⟨[], .nil, upd_same⟩
    have hr : (ρ1 ++ [D])[M1.length]? = some D := by rw [← s1.len]; simp
    refine ⟨fun j m H' => m = l.length - j ∧ j ≤ l.length ∧ ∃ ρ' M', PX (ρ1 ++ [D]) ρ' ∧ KT X.K (upd H1 D (.lst [])) H' ∧ Sim X.K ρ' M' H' ∧
      (Rs X.K xr W ρ' H' σ (lcGo step i l.length M1.length (l.length - j) M') fun d _ ρ'' H'' => ∀ v, RD X.K ρ'' H'' d v → Q v H''), ⟨l.length, by omega, Nat.zero_le _, ρ1 ++ [D], _, PX.rfl', KT.rfl', sim0, Rs.later h1 PX.push kt⟩, ?_⟩
    rintro j m H' ⟨rfl, hj, ρ', M', x2, k2, s2, h2⟩
    have x02 : PX ρ1 ρ' := PX.push.trans x2
    have k02 : KT X.K H1 H' := kt.trans k2
    by_cases hlt : j < l.length
    · right
      obtain ⟨n, hn⟩ : ∃ n, l.length - j = n + 1 := ⟨l.length - j - 1, by omega⟩
      rw [hn] at h2
      unfold lcGo at h2
      split at h2
      · exact h2.elim
      · rename_i y hy
        obtain ⟨l', hl', hlen, hget⟩ := item_some hy
        obtain ⟨jgo, jstop, jy⟩ := hJ ρ' M' H' x02 k02 s2 l' hl'
        have hjj : l.length - (n + 1) = j := by omega
        rw [hjj] at hget
        refine ⟨jgo j (by omega), fun H'' => ∃ ρ'' M'', PX (ρ1 ++ [D]) ρ'' ∧ KT X.K (upd H1 D (.lst [])) H'' ∧ Sim X.K ρ'' M'' H'' ∧
          (Rs X.K xr W ρ'' H'' σ (lcGo step i l.length M1.length (l.length - (j + 1)) M'') fun d _ ρ'' H'' => ∀ v, RD X.K ρ'' H'' d v → Q v H''), fun H'' q => ⟨l.length - (j + 1), by omega, rfl, by omega, q⟩, fun xv H3 yy => ?_⟩
        obtain ⟨d, hd, k3, s3, rd3⟩ := jy j xv H3 (by omega) yy
        rw [hget] at hd
        cases hd
        have sl3 : SL X.K ρ' H3 (wipeS s vs) (wipe σ vs) := wipe_SL ((sl.mono k1 x1).mono (k02.trans k3) x02) vs
        -- the turn
        have hst' : ∀ y M2, step y M2 = (match bindT t y (wipeS s vs) with
          | none => (Res.bad : Res (Option Mp.D))
          | some s' => (evc G ci s' M2).bind fun b M3 => if b = true then (ev G x s' M3).bind fun y M4 => .ok (some y) M4 else .ok none M3) := fun y M2 => by rw [← hst]
        rw [hst' y M'] at h2
        cases hbt : bindT t y (wipeS s vs) with
        | none => rw [hbt] at h2; exact h2.elim
        | some s' =>
          rw [hbt] at h2
          simp only at h2
          have n1 : l.length - (j + 1) = n := by omega
          refine g_ok hbt rd3 sl3 fun σ1 sl4 w1 => ⟨by rw [w1 vs ht, wipe_idem], ?_⟩
          refine ⟨ρ', s', M', s3, sl4, ?_⟩
          cases hev : evc G ci s' M' with
          | exc _ _ => rw [hev] at h2; exact h2.elim
          | bad => rw [hev] at h2; exact h2.elim
          | ok b M3 =>
            rw [hev, Res.bind_ok] at h2
            intro ρ3 H4 x4 k4 s4
            cases b with
            | false =>
              rw [if_neg Bool.false_ne_true] at h2 ⊢
              rw [n1]
              exact ⟨ρ3, M3, x2.trans x4, (k2.trans k3).trans k4, s4, Rs.later h2 x4 (k3.trans k4)⟩
            | true =>
              rw [if_pos rfl] at h2 ⊢
              refine ⟨ρ3, s', M3, s4, sl4.mono k4 x4, ?_⟩
              cases hee : ev G x s' M3 with
              | exc _ _ => rw [hee] at h2; exact h2.elim
              | bad => rw [hee] at h2; exact h2.elim
              | ok z M4 =>
                rw [hee, Res.bind_ok] at h2
                intro ρ4 H5 x5 k5 s5 zv rz
                simp only at h2
                split at h2
                · rename_i acc hacc
                  split at h2
                  · rename_i hz
                    have hD4 : ρ4[M1.length]? = some D := x5 _ _ (x4 _ _ (x2 _ _ hr))
                    obtain ⟨vacc, racc, hH⟩ := s5.at hacc hD4
                    have zl := racc.length
                    have kw : KT X.K H5 (upd H5 D (.lst (vacc ++ [zv]))) := KT.write hH (fun _ e => by cases e) (fun _ _ e => by cases e)
                    refine ⟨vacc, hH, by omega, ?_⟩
                    rw [n1]
                    refine ⟨ρ4, M4.set M1.length (.lst (acc ++ [z])), (x2.trans x4).trans x5, (((k2.trans k3).trans k4).trans k5).trans kw, ?_, Rs.later h2 (x4.trans x5) (((k3.trans k4).trans k5).trans kw)⟩
                    exact s5.write hD4 hH (fun _ e => by cases e) (fun _ _ e => by cases e) ⟨_, RDs.mono kw PX.rfl' _ _ (racc.append (.cons rz .nil)), upd_same⟩
                  · exact h2.elim
                · exact h2.elim
    · left
      have e0 : l.length - j = 0 := by omega
      have ej : j = l.length := by omega
      rw [e0] at h2
      unfold lcGo at h2
      split at h2
      · rename_i hends
        obtain ⟨l', hl', hlen⟩ := ends_some hends
        obtain ⟨jgo, jstop, jy⟩ := hJ ρ' M' H' x02 k02 s2 l' hl'
        rw [ej, ← hlen]
        exact ⟨jstop, h2.now s2 _ (.ref (x2 _ _ hr))⟩
      · exact h2.elim
end
end Mp

set_option Elab.async false
set_option linter.all false
set_option maxRecDepth 100000
set_option maxHeartbeats 4000000
set_option autoImplicit false
/-! enumerate and zip over lists and tuples alike. -/
namespace Mp
open PySem PySem.Spec PyProof.Rows L2
section
variable (K : PySem.W.Frag)
def SqK (tp : Bool) (H : Hp) (a : Addr) (xs : List V) : Prop := match tp with
  | true => SqT K H a xs
  | false => SqL K H a xs
end
def ItK (h : Heap) (tp : Bool) (it a : Addr) (i : Nat) : Prop := match tp with
  | true => h.IsTupleIter it a i
  | false => h.IsListIter it a i
def HasK (h : Heap) (tp : Bool) (a : Addr) (items : Array Value) : Prop := match tp with
  | true => h.IsTuple a items
  | false => h.IsList a items
def itO (tp : Bool) (a : Addr) : Obj := match tp with
  | true => { cls := .type "tuple_iterator", data := .fields #[.ref a, .int 0 0] }
  | false => { cls := .type "list_iterator", data := .fields #[.ref a, .int 0 0] }
theorem ItK.start {h : Heap} {tp : Bool} {it a : Addr} (e : h.get? it = some (itO tp a)) : ItK h tp it a 0 := by
  cases tp
  · exact ⟨_, e, rfl, rfl⟩
  · exact ⟨_, e, rfl, rfl⟩
theorem ItK.over {h h' : Heap} {tp : Bool} {it a : Addr} {i : Nat} (x : ItK h tp it a i) (k : ∀ o, h.get? it = some o → h'.get? it = some o) : ItK h' tp it a i := by
  cases tp
  · obtain ⟨o, e, r⟩ := x; exact ⟨o, k o e, r⟩
  · obtain ⟨o, e, r⟩ := x; exact ⟨o, k o e, r⟩
theorem ItK.obj {h : Heap} {tp : Bool} {it a : Addr} {i : Nat} (x : ItK h tp it a i) : ∃ o, h.get? it = some o ∧ ∃ vs, o.data = .fields vs := by
  cases tp
  · obtain ⟨o, e, c, d⟩ := x; exact ⟨o, e, _, d⟩
  · obtain ⟨o, e, c, d⟩ := x; exact ⟨o, e, _, d⟩
theorem HasK.obj {h : Heap} {tp : Bool} {a : Addr} {items : Array Value} (x : HasK h tp a items) : ∃ o, h.get? a = some o ∧ (o.cls = .type "tuple" ∨ o.cls = .type "list") ∧ ∃ n, o.data = .seq items n := by
  cases tp
  · obtain ⟨o, e, c, n, d⟩ := x; exact ⟨o, e, .inr c, n, d⟩
  · obtain ⟨o, e, c, n, d⟩ := x; exact ⟨o, e, .inl c, n, d⟩
theorem HasK.ne {h : Heap} {tp tq : Bool} {a it b : Addr} {i : Nat} {items : Array Value} (x : HasK h tp a items) (y : ItK h tq it b i) : a ≠ it := by
  rintro rfl
  obtain ⟨o, e, vs, d⟩ := y.obj
  obtain ⟨o', e', _, n, d'⟩ := x.obj
  rw [e] at e'; cases e'
  rw [d] at d'; cases d'
theorem drawK {prog : Program} {w : World} {A : Around} (hh : A.handled = none) (tp : Bool) (it a : Addr) (hne : a ≠ it) (items : Array Value) :
    Draws prog w A it [it, a] items.size (fun i v => items[i]? = some v) (fun i h => ItK h tp it a i ∧ HasK h tp a items) := by
  cases tp
  · exact Draws.list hh it a hne items
  · exact Draws.tuple hh it a hne items
theorem beginK (tp : Bool) (a : Addr) (items : Array Value) : Begins (.ref a) (itO tp a) fun h => HasK h tp a items := by
  cases tp
  · exact begins_list a items
  · exact begins_tuple a items
section
variable {X : Cx} {pins : List (Addr × Obj)} {σ : L2.St} {H : Hp} {s : Shared}
theorem inK {tp : Bool} {a : Addr} {xs : List V} (I : Inv X pins σ H s) (hq : SqK X.K tp H a xs) : ∃ its : List Value, Vals xs its ∧ HasK s.heap tp a its.toArray := by
  cases tp
  · obtain ⟨its, rv, p, _⟩ := I.list hq
    exact ⟨its, rv, p.isList⟩
  · obtain ⟨its, rv, p, _⟩ := I.tuple hq
    exact ⟨its, rv, p⟩
theorem injK {tp : Bool} {a : Addr} {xs ys : List V} (I : Inv X pins σ H s) (h : SqK X.K tp H a xs) (h' : SqK X.K tp H a ys) : xs = ys := by
  cases tp
  · exact I.list_inj h h'
  · exact I.tuple_inj h h'
end
/-- a pair, with each thing at its place -/
def IteK (K : PySem.W.Frag) (tp : Bool) (a : Addr) : L2.It :=
  ⟨fun i H => ∃ (xs : List V) (x : V), SqK K tp H a xs ∧ xs[i]? = some x,
   fun i H v H' => ∃ T x, v = .ref T ∧ H T = none ∧ H' = upd H T (.tup [.int (i : Nat), x]) ∧ ∀ xs, SqK K tp H a xs → xs[i]? = some x,
   fun i H => ∃ xs : List V, SqK K tp H a xs ∧ xs.length = i⟩
theorem enumE {P : Program} {w : World} {K : PySem.W.Frag} {elts : List Expr} {kk : Nat} {tpos : Pos} (tp : Bool) (a e it : Addr) :
    Turn P w K (.Tuple elts kk tpos) (IteK K tp a) [e, it] e (fun i h => (∃ old, IsEnum h e it ((i : Nat) : Int) old) ∧ ItK h tp it a i ∧ e ≠ it) where
  mem := by simp
  obj := fun i h st b hb => by
    obtain ⟨⟨old, he⟩, hit, _⟩ := st
    obtain ⟨o, ho, vs, hd⟩ := hit.obj
    rcases (show b = e ∨ b = it by simpa using hb) with rfl | rfl
    · exact ⟨_, he, fun v q => nomatch q⟩
    · exact ⟨o, ho, fun v q => by rw [hd] at q; cases q⟩
  keep := fun i h h' st k => ⟨⟨st.1.choose, k e (by simp) _ st.1.choose_spec⟩, st.2.1.over fun o q => k it (by simp) o q, st.2.2⟩
  item := by
    intro X hP hw hK hc i pins s σ H E I hf st hg
    subst hP; subst hw; subst hK
    obtain ⟨⟨old, he⟩, hit, hne⟩ := st
    obtain ⟨xs, x, hq, hx⟩ := hg
    obtain ⟨its, rv, p⟩ := inK I hq
    have hel : e < s.heap.objs.size := Heap.lt_size he
    have hil : it < s.heap.objs.size := by obtain ⟨_, q, _⟩ := hit.obj; exact Heap.lt_size q
    have hai : a ≠ it := p.ne hit
    have hae : e ≠ a := by
      rintro rfl
      obtain ⟨o', e', _, n, d'⟩ := p.obj
      rw [he] at e'; cases e'; cases d'
    have lt : i < its.toArray.size := by
      have h1 := rv.length
      have h2 := (List.getElem?_eq_some_iff.mp hx).1
      rw [List.size_toArray]; omega
    refine wpAny_pyNext_enum_itemD (drawK (A := X.A.in1) (I.ok.hd hc) tp it a hai its.toArray) he ⟨hit, p⟩ lt hne (by simp [hne, hae]) fun u h' tk hu ho hst hT hsz hk => ?_
    obtain ⟨u', hu', ru⟩ := rv.get hx
    have : u = u' := by
      have : its[i]? = some u := by simpa using hu
      rw [hu'] at this; exact (Option.some.inj this).symm
    subst this
    refine ⟨_, rfl, wpAny_letOwnedTupleGo_enum (s := { s with heap := h', toks := tk + 1 }) ho fun h2 he2 sb => ?_⟩
    have hT2 := (sb.2 _ (Nat.ne_of_gt hel)).trans hT
    have kept : ∀ b o, b ∉ [e, it] → s.heap.get? b = some o → h2.get? b = some o := fun b o hb q => (sb.2 b (fun z => hb (by simp [z]))).trans (hk b o (fun z => hb (by simp [z])) (fun z => hb (by simp [z])) q)
    have fresh := I.hok.fresh (Nat.le_refl _)
    have I1 : Inv X pins σ (upd H s.heap.objs.size (.tup [.int (i : Nat), x])) { s with heap := h2, toks := tk + 1 } := I.turnedNew kept hf (Nat.le_refl _) ⟨by show 2 ≤ sizeLine; decide, [.int i tk, u], .cons ⟨_, rfl⟩ (.cons ru .nil), ⟨_, hT2, rfl, _, rfl⟩⟩
    refine ⟨.ref s.heap.objs.size, _, I1, rfl, ⟨_, x, rfl, fresh, rfl, fun ys hy => by rw [injK I hy hq]; exact hx⟩, ⟨⟨u, ?_⟩, hst.1.over fun o q => (sb.2 it (Ne.symm hne)).trans q, hne⟩, fun b hb => ?_⟩
    · rw [show ((i + 1 : Nat) : Int) = (i : Int) + 1 by omega]; exact he2
    · rw [upd_ne (Nat.ne_of_lt ?_)]
      · exact (hf b hb).1
      · rcases (show b = e ∨ b = it by simpa using hb) with rfl | rfl
        · exact hel
        · exact hil
  done := by
    intro X hP hw hK hc i pins s σ H E I hf st hg
    subst hP; subst hw; subst hK
    obtain ⟨⟨old, he⟩, hit, hne⟩ := st
    obtain ⟨xs, hq, hx⟩ := hg
    obtain ⟨its, rv, p⟩ := inK I hq
    have hai : a ≠ it := p.ne hit
    have e1 : i = its.toArray.size := by rw [List.size_toArray, ← rv.length, hx]
    subst e1
    exact wpAny_pyNext_enum_endD (drawK (A := X.A.in1) (I.ok.hd hc) tp it a hai its.toArray) he ⟨hit, p⟩ fun h' hx' => ⟨rfl, I.turnedL (ch := [e, it]) (fun b o hb q => hx' b o (fun z => hb (by simp [z])) q) hf⟩
  self := fun A i s Q E st h => wpAny_pyIter_enum st.1.choose_spec h
set_option maxHeartbeats 1000000 in
theorem meets_enum1 {v : Value} {o : Obj} {H : Heap → Prop} (B : Begins v o H) :
    Meets (Builtin.«enumerate.__new__» ⟨[.type "enumerate", v], []⟩) (fun _ R s => H s.heap ∧
      R (.ok (.ret (.ref (s.heap.push o).objs.size))) { s with heap := (s.heap.push o).push { cls := .type "enumerate", data := .fields #[.none, .bool false, .ref s.heap.objs.size, rawInt 0, .none, .none] } }) :=
  .of_wp fun prog w A R s h => by
    obtain ⟨hp, g, d, tk, os⟩ := s
    obtain ⟨h1, h⟩ := h
    have hsub := sub_enumerate
    have it1 : ∀ {A' : Around} {E : Value → Shared → Prop} {Q : Value → Shared → Prop}, Q (.ref hp.objs.size) ⟨hp.push o, g, d, tk, os⟩ → wpAny (model prog w) A' (pyIter v) Q E ⟨hp, g, d, tk, os⟩ := fun q => B.iter prog w _ _ ⟨hp, g, d, tk, os⟩ _ h1 q
    wp_walk using it1
    refine wpAny_stack_any fun st => wpAny_pure ?_
    split
    · rename_i c _ _ _ _ _
      cases (c == Value.type "enumerate")
      all_goals (wp_walk using it1; exact ⟨_, rfl, h⟩)
    · wp_walk using it1
      exact ⟨_, rfl, h⟩
theorem enum1 {prog : Program} {w : World} {A : Around} {E : Value → Shared → Prop} {s : Shared} {v : Value} {o : Obj} {H : Heap → Prop} {Q : Value → Shared → Prop} (B : Begins v o H) (h1 : H s.heap)
    (h : ∀ h', IsEnum h' (s.heap.objs.size + 1) s.heap.objs.size 0 .none → h'.get? s.heap.objs.size = some o → (∀ b o, s.heap.get? b = some o → h'.get? b = some o) → Q (.ref (s.heap.objs.size + 1)) { s with heap := h' }) :
    wpAny (model prog w) A (call (.type "enumerate") [v]) Q E s := by
  refine callType_new F.called_enumerate (by decide) (F.typeCall_enumerate_1 _) (F.newCall_enumerate_1 _) (fun obj => F.args_object_init_2 obj _) F.entry_enumerate_new (meets_enum1 B) ⟨h1, ?_⟩
  have z : (s.heap.push o).objs.size = s.heap.objs.size + 1 := Heap.size_push ..
  show _ ∧ _
  rw [z]
  have q := Heap.get?_push_size (s.heap.push o) (o := { cls := .type "enumerate", data := .fields #[.none, .bool false, .ref s.heap.objs.size, rawInt 0, .none, .none] }) rfl
  rw [z] at q
  exact ⟨⟨_, q, rfl⟩, h _ q (Heap.get?_push_of_some _ (Heap.get?_push_size _ B.free)) fun b o x => Heap.get?_push_of_some _ (Heap.get?_push_of_some _ x)⟩
def iEnumK (K : PySem.W.Frag) (ta : TA) : TI := fun σ H R => ta σ H fun vs H1 => ∃ a tp xs, vs = [.ref a] ∧ SqK K tp H1 a xs ∧ R (IteK K tp a) H1
theorem pi_enumK {X : Cx} {e : Expr} {ta : TA} {p pos tpos : Pos} {elts : List Expr} {kk : Nat} (hg : L2.Gl X "enumerate") (hm : X.mg "enumerate" = none) (ha : PA X [e] ta) (hs : starEach [e] X.env = [(false, eval e X.env)]) :
    PI X (.Tuple elts kk tpos) (.Call (.Name "enumerate" p) [e] [] pos) (iEnumK X.K ta) := by
  refine ⟨fun pins s σ H R I h => ?_⟩
  refine Call_ (ld_blt I hg hm boot_enumerate (PyProof.Rows.callWith_type1 (thn (ha.run pos pins s σ H _ I h) fun us s1 ⟨vs, H1, I1, r1, a, tp, xs, ex, hq, q⟩ => ?_) hs rfl))
  subst ex
  obtain ⟨u, rfl, r⟩ := vals1 r1
  cases r
  obtain ⟨its, rv, p'⟩ := inK I1 hq
  refine enum1 (beginK tp a its.toArray) p' fun h' he hit hk => wpAny_pyIter_enum he ?_
  have I2 : Inv X pins σ H1 { s1 with heap := h' } := I1.kept (t' := s1.toks) hk
  refine ⟨s1.heap.objs.size + 1, [s1.heap.objs.size + 1, s1.heap.objs.size], _, _, H1, rfl, I2, enumE tp a (s1.heap.objs.size + 1) s1.heap.objs.size, ⟨⟨.none, he⟩, ItK.start hit, Nat.succ_ne_self _⟩, fun b hb => ?_, q⟩
  have hle : s1.heap.objs.size ≤ b := by
    rcases (show b = s1.heap.objs.size + 1 ∨ b = s1.heap.objs.size by simpa using hb) with z | z
    · rw [z]; exact Nat.le_add_right _ _
    · rw [z]; exact Nat.le_refl _
  exact I1.fpOk hle (I1.hok.fresh hle)
/-! ### zip -/
def ItzK (K : PySem.W.Frag) (tp tq : Bool) (a b : Addr) : L2.It :=
  ⟨fun i H => ∃ (xs ys : List V) (x y : V), SqK K tp H a xs ∧ SqK K tq H b ys ∧ xs[i]? = some x ∧ ys[i]? = some y,
   fun i H v H' => ∃ T x y, v = .ref T ∧ H T = none ∧ H' = upd H T (.tup [x, y]) ∧ (∀ xs, SqK K tp H a xs → xs[i]? = some x) ∧ ∀ ys, SqK K tq H b ys → ys[i]? = some y,
   fun i H => ∃ xs ys : List V, SqK K tp H a xs ∧ SqK K tq H b ys ∧ i ≤ xs.length ∧ i ≤ ys.length ∧ (i = xs.length ∨ i = ys.length)⟩
def ZipSt (tp tq : Bool) (a b z TI TO i1 i2 : Addr) (i : Nat) (h : Heap) : Prop := IsZip h z TI TO .none ∧ IsTupOf2 h TI (.ref i1) (.ref i2) ∧ (∃ x y, IsTupOf2 h TO x y) ∧ ItK h tp i1 a i ∧ ItK h tq i2 b i
theorem zipE {P : Program} {w : World} {K : PySem.W.Frag} {elts : List Expr} {kk : Nat} {tpos : Pos} {tp tq : Bool} {a b z TI TO i1 i2 : Addr} (S : ZipSep2 z TI TO i1 i2 [i1, a] [i2, b]) :
    Turn P w K (.Tuple elts kk tpos) (ItzK K tp tq a b) [z, TI, TO, i1, i2] z (ZipSt tp tq a b z TI TO i1 i2) where
  mem := by simp
  obj := fun i h st c hc => by
    obtain ⟨hz, hTI, ⟨x, y, hTO⟩, h1, h2⟩ := st
    obtain ⟨o1, e1, v1, d1⟩ := h1.obj
    obtain ⟨o2, e2, v2, d2⟩ := h2.obj
    rcases (show c = z ∨ c = TI ∨ c = TO ∨ c = i1 ∨ c = i2 by simpa using hc) with rfl | rfl | rfl | rfl | rfl
    · exact ⟨_, hz, fun v q => nomatch q⟩
    · exact ⟨_, hTI, fun v q => nomatch q⟩
    · exact ⟨_, hTO, fun v q => nomatch q⟩
    · exact ⟨o1, e1, fun v q => by rw [d1] at q; cases q⟩
    · exact ⟨o2, e2, fun v q => by rw [d2] at q; cases q⟩
  keep := fun i h h' st k => by
    obtain ⟨hz, hTI, ⟨x, y, hTO⟩, h1, h2⟩ := st
    exact ⟨k z (by simp) _ hz, k TI (by simp) _ hTI, ⟨x, y, k TO (by simp) _ hTO⟩, h1.over fun o q => k i1 (by simp) o q, h2.over fun o q => k i2 (by simp) o q⟩
  item := by
    intro X hP hw hK hc i pins s σ H E I hf st hg
    subst hP; subst hw; subst hK
    obtain ⟨hz, hTI, ⟨x0, y0, hTO⟩, h1, h2⟩ := st
    obtain ⟨xs, ys, x, y, hqx, hqy, hx, hy⟩ := hg
    obtain ⟨its, rv, p⟩ := inK I hqx
    obtain ⟨its2, rv2, p2⟩ := inK I hqy
    have lt1 : i < its.toArray.size := by
      have l1 := rv.length
      have l2 := (List.getElem?_eq_some_iff.mp hx).1
      rw [List.size_toArray]; omega
    have lt2 : i < its2.toArray.size := by
      have l1 := rv2.length
      have l2 := (List.getElem?_eq_some_iff.mp hy).1
      rw [List.size_toArray]; omega
    have hzl : z < s.heap.objs.size := Heap.lt_size hz
    refine wpAny_pyNext_zipD2_item S (drawK (A := X.A.in1) (I.ok.hd hc) tp i1 a (p.ne h1) its.toArray) (drawK (A := X.A.in1) (I.ok.hd hc) tq i2 b (p2.ne h2) its2.toArray) hz hTI hTO ⟨h1, p⟩ ⟨h2, p2⟩ lt1 lt2 fun u u2 h' tk hu hu2 z' TO' st1 st2 hT hsz hk => ?_
    obtain ⟨w1, g1, r1⟩ := rv.get hx
    obtain ⟨w2, g2, r2⟩ := rv2.get hy
    obtain rfl : w1 = u := Option.some.inj (g1.symm.trans (by simpa using hu))
    obtain rfl : w2 = u2 := Option.some.inj (g2.symm.trans (by simpa using hu2))
    refine ⟨_, rfl, wpAny_letOwnedTupleGo_zip (s := { s with heap := h', toks := tk }) z' fun h3 z3 sb => ?_⟩
    have hT2 := (sb.2 _ (Nat.ne_of_gt hzl)).trans hT
    have kept : ∀ c o, c ∉ [z, TI, TO, i1, i2] → s.heap.get? c = some o → h3.get? c = some o := fun c o hb q => (sb.2 c (fun e => hb (by simp [e]))).trans (hk c o (fun e => hb (by simp [e])) (fun e => hb (by simp [e])) (fun e => hb (by simp [e])) (fun e => hb (by simp [e])) q)
    have fresh := I.hok.fresh (Nat.le_refl _)
    have I1 : Inv X pins σ (upd H s.heap.objs.size (.tup [x, y])) { s with heap := h3, toks := tk } := I.turnedNew kept hf (Nat.le_refl _) ⟨by show 2 ≤ sizeLine; decide, [w1, w2], .cons r1 (.cons r2 .nil), ⟨_, hT2, rfl, _, rfl⟩⟩
    refine ⟨.ref s.heap.objs.size, _, I1, rfl, ⟨_, x, y, rfl, fresh, rfl, fun l hl => by rw [injK I hl hqx]; exact hx, fun l hl => by rw [injK I hl hqy]; exact hy⟩, ⟨z3, ?_, ⟨w1, w2, ?_⟩, ?_, ?_⟩, fun c hcm => ?_⟩
    · exact (sb.2 _ S.TIz).trans (hk _ _ S.TIz S.TITO S.TIi1 S.TIi2 hTI)
    · exact (sb.2 _ S.TOz).trans TO'
    · exact st1.1.over fun o q => (sb.2 _ (Ne.symm S.zi1)).trans q
    · exact st2.1.over fun o q => (sb.2 _ (Ne.symm S.zi2)).trans q
    · rw [upd_ne (Nat.ne_of_lt ?_)]
      · exact (hf c hcm).1
      · obtain ⟨o1, e1, _⟩ := h1.obj
        obtain ⟨o2, e2, _⟩ := h2.obj
        rcases (show c = z ∨ c = TI ∨ c = TO ∨ c = i1 ∨ c = i2 by simpa using hcm) with rfl | rfl | rfl | rfl | rfl
        · exact hzl
        · exact Heap.lt_size hTI
        · exact Heap.lt_size hTO
        · exact Heap.lt_size e1
        · exact Heap.lt_size e2
  done := by
    intro X hP hw hK hc i pins s σ H E I hf st hg
    subst hP; subst hw; subst hK
    obtain ⟨hz, hTI, ⟨x0, y0, hTO⟩, h1, h2⟩ := st
    obtain ⟨xs, ys, hqx, hqy, l1, l2, hend⟩ := hg
    obtain ⟨its, rv, p⟩ := inK I hqx
    obtain ⟨its2, rv2, p2⟩ := inK I hqy
    have z1 := rv.length
    have z2 := rv2.length
    exact wpAny_pyNext_zipD2_end S (drawK (A := X.A.in1) (I.ok.hd hc) tp i1 a (p.ne h1) its.toArray) (drawK (A := X.A.in1) (I.ok.hd hc) tq i2 b (p2.ne h2) its2.toArray) hz hTI hTO ⟨h1, p⟩ ⟨h2, p2⟩ (by rw [List.size_toArray]; omega) (by rw [List.size_toArray]; omega) (by rw [List.size_toArray, List.size_toArray]; omega)
      fun h' tk hk => ⟨rfl, I.turnedL (t' := tk) (ch := [z, TI, TO, i1, i2]) (fun c o hb q => hk c o (fun e => hb (by simp [e])) (fun e => hb (by simp [e])) (fun e => hb (by simp [e])) (fun e => hb (by simp [e])) q) hf⟩
  self := fun A i s Q E st h => wpAny_pyIter_zip st.1 h
def iZipK (K : PySem.W.Frag) (ta : TA) : TI := fun σ H R => ta σ H fun vs H1 => ∃ a b tp tq xs ys, vs = [.ref a, .ref b] ∧ SqK K tp H1 a xs ∧ SqK K tq H1 b ys ∧ R (ItzK K tp tq a b) H1
theorem pi_zipK {X : Cx} {e e2 : Expr} {ta : TA} {p pos tpos : Pos} {elts : List Expr} {kk : Nat} (hg : L2.Gl X "zip") (hm : X.mg "zip" = none) (ha : PA X [e, e2] ta)
    (hs : starEach [e, e2] X.env = (false, eval e X.env) :: starEach [e2] X.env) (hpl : (backTo pos (starEach [e2] X.env)).any (·.1) = false) :
    PI X (.Tuple elts kk tpos) (.Call (.Name "zip" p) [e, e2] [] pos) (iZipK X.K ta) := by
  refine ⟨fun pins s σ H R I h => ?_⟩
  refine Call_ (ld_blt I hg hm PyProof.Rows.boot_zip (PyProof.Rows.callWith_type1 (thn (ha.run pos pins s σ H _ I h) fun us s1 ⟨vs, H1, I1, r1, a, b, tp, tq, xs, ys, ex, hqx, hqy, q⟩ => ?_) hs hpl))
  subst ex
  obtain ⟨u1, u2, rfl, ra, rb⟩ : ∃ u1 u2, us = [u1, u2] ∧ RelV (.ref a) u1 ∧ RelV (.ref b) u2 := by
    cases r1 with
    | cons g r => cases r with
      | cons g2 r => cases r; exact ⟨_, _, rfl, g, g2⟩
  cases ra
  cases rb
  obtain ⟨its, rv, p1⟩ := inK I1 hqx
  obtain ⟨its2, rv2, p2⟩ := inK I1 hqy
  have la : a < s1.heap.objs.size := by obtain ⟨o, e, _⟩ := p1.obj; exact Heap.lt_size e
  have lb : b < s1.heap.objs.size := by obtain ⟨o, e, _⟩ := p2.obj; exact Heap.lt_size e
  have S := zip_sep2 (N := s1.heap.objs.size) (fp1 := [a]) (fp2 := [b]) (by simpa using la) (by simpa using lb)
  refine zip_begins2 (beginK tp a its.toArray) (beginK tq b its2.toArray) p1 p2 fun h' hz hTI hTO g1 g2 hsz hk => wpAny_pyIter_zip hz ?_
  have I2 : Inv X pins σ H1 { s1 with heap := h' } := I1.kept (t' := s1.toks) hk
  refine ⟨_, [_, _, _, _, _], _, _, H1, rfl, I2, zipE S, ⟨hz, hTI, ⟨_, _, hTO⟩, ItK.start g1, ItK.start g2⟩, fun c hc => ?_, q⟩
  have hle : s1.heap.objs.size ≤ c := by
    rcases (show c = s1.heap.objs.size + 4 ∨ c = s1.heap.objs.size + 2 ∨ c = s1.heap.objs.size + 3 ∨ c = s1.heap.objs.size ∨ c = s1.heap.objs.size + 1 by simpa using hc) with e | e | e | e | e <;> rw [e] <;> first | exact Nat.le_refl _ | exact Nat.le_add_right _ _
  exact I1.fpOk hle (I1.hok.fresh hle)
/-! ### as the evaluator walks -/
section
variable {G : Gl} {xr : XR} {W : WX} {X : Cx} {N : List Str} {sc : Names}
def SrcK (K : PySem.W.Frag) (tp : Bool) (a : Addr) (sr : Src) (ρ0 : List Addr) (H0 : Hp) : Prop := ∀ (ρ : List Addr) (M : Mem) (H : Hp), PX ρ0 ρ → KT K H0 H → Sim K ρ M H → ∀ l, sr.now M = some l → ∃ vs, SqK K tp H a vs ∧ RDs K ρ H l vs
theorem SrcK.later {K : PySem.W.Frag} {tp : Bool} {a : Addr} {sr : Src} {ρ ρ' : List Addr} {H H' : Hp} (h : SrcK K tp a sr ρ H) (x : PX ρ ρ') (k : KT K H H') : SrcK K tp a sr ρ' H' := fun ρ1 M1 H1 x1 k1 => h ρ1 M1 H1 (x.trans x1) (k.trans k1)
theorem src_of {ρ : List Addr} {M : Mem} {H : Hp} {d : D} {v : V} {sr : Src} (s : Sim X.K ρ M H) (r : RD X.K ρ H d v) (h : srcOf M d = some sr) : ∃ a tp, v = .ref a ∧ SrcK X.K tp a sr ρ H ∧ ∃ vs, SqK X.K tp H a vs := by
  unfold srcOf at h
  cases r with
  | tup hq hs =>
    cases h
    refine ⟨_, true, rfl, fun ρ' M' H' x k _ l hl => ?_, _, hq⟩
    cases hl
    exact ⟨_, k.1 _ _ hq, RDs.mono k x _ _ hs⟩
  | ref ha =>
    simp only at h
    split at h
    · rename_i l el
      cases h
      obtain ⟨vs, rs, hl⟩ := s.list el ha
      refine ⟨_, false, rfl, fun ρ' M' H' x k s' l hl => ?_, vs, .of hl⟩
      obtain ⟨vs', rs', hl'⟩ := s'.list hl (x _ _ ha)
      exact ⟨vs', .of hl', rs'⟩
    · cases h
  | fl hq hs =>
    cases h
    refine ⟨_, false, rfl, fun ρ' M' H' x k _ l hl => ?_, _, hq.sql⟩
    cases hl
    exact ⟨_, (FL.mono k hq).sql, RDs.mono k x _ _ hs⟩
  | _ => cases h
theorem pair_rd {ρ : List Addr} {H : Hp} {M : Mem} {T : Addr} {d e : D} {x y : V} (hT : H T = none) (s : Sim X.K ρ M H) (r1 : RD X.K ρ H d x) (r2 : RD X.K ρ H e y) : KT X.K H (upd H T (.tup [x, y])) ∧ Sim X.K ρ M (upd H T (.tup [x, y])) ∧ RD X.K ρ (upd H T (.tup [x, y])) (.tup [d, e]) (.ref T) := by
  have kt : KT X.K H (upd H T (.tup [x, y])) := KT.new hT
  exact ⟨kt, s.lay hT, .tup (.inl (.inl upd_same)) (.cons (RD.mono kt PX.rfl' _ _ r1) (.cons (RD.mono kt PX.rfl' _ _ r2) .nil))⟩
theorem j_enum {tp : Bool} {a : Addr} {sr : Src} {ρ0 : List Addr} {H0 : Hp} (h : SrcK X.K tp a sr ρ0 H0) : JOk X.K (IteK X.K tp a) (.enum sr) ρ0 H0 := by
  intro ρ M H x k s l hl
  obtain ⟨l0, e0, rfl⟩ := Option.map_eq_some_iff.mp hl
  obtain ⟨vs, hq, rs⟩ := h ρ M H x k s l0 e0
  have z := rs.length
  rw [List.length_mapIdx]
  refine ⟨fun i hi => ⟨vs, vs[i]'(by omega), hq, List.getElem?_eq_getElem _⟩, ⟨vs, hq, by omega⟩, fun i v H' hi hy => ?_⟩
  obtain ⟨T, y, rfl, hT, rfl, hx⟩ := hy
  obtain ⟨d, ed, rd'⟩ := rs.get' (hx vs hq)
  obtain ⟨p1, p2, p3⟩ := pair_rd (X := X) hT s (.int (i : Nat)) rd'
  exact ⟨_, by rw [List.getElem?_mapIdx, ed]; rfl, p1, p2, p3⟩
theorem zipWith_get {l l' : List D} {i : Nat} {a b : D} (h1 : l[i]? = some a) (h2 : l'[i]? = some b) : (List.zipWith (fun x y => D.tup [x, y]) l l')[i]? = some (.tup [a, b]) := by
  rw [List.getElem?_zipWith, h1, h2]
theorem j_zip {tp tq : Bool} {a b : Addr} {sr sr' : Src} {ρ0 : List Addr} {H0 : Hp} (h : SrcK X.K tp a sr ρ0 H0) (h' : SrcK X.K tq b sr' ρ0 H0) : JOk X.K (ItzK X.K tp tq a b) (.zip sr sr') ρ0 H0 := by
  intro ρ M H x k s l hl
  simp only [It.now] at hl
  split at hl
  · rename_i l1 l2 e1 e2
    cases hl
    obtain ⟨vs, hq, rs⟩ := h ρ M H x k s l1 e1
    obtain ⟨ws, hp, ts⟩ := h' ρ M H x k s l2 e2
    have z1 := rs.length
    have z2 := ts.length
    rw [List.length_zipWith]
    refine ⟨fun i hi => ⟨vs, ws, vs[i]'(by omega), ws[i]'(by omega), hq, hp, List.getElem?_eq_getElem _, List.getElem?_eq_getElem _⟩, ⟨vs, ws, hq, hp, by omega, by omega, by omega⟩, fun i v H' hi hy => ?_⟩
    obtain ⟨T, y1, y2, rfl, hT, rfl, hx1, hx2⟩ := hy
    obtain ⟨d, ed, rd'⟩ := rs.get' (hx1 vs hq)
    obtain ⟨d2, ed2, rd2⟩ := ts.get' (hx2 ws hp)
    obtain ⟨p1, p2, p3⟩ := pair_rd (X := X) hT s rd' rd2
    exact ⟨_, zipWith_get ed ed2, p1, p2, p3⟩
  · cases hl
theorem i_enum {elts : List Expr} {kk : Nat} {tpos : Pos} {a : Expr} {p pos : Pos} {x : Ir} (C : Ctx G xr W X N sc) (hg : L2.Gl X "enumerate") (hs : starred a = false) (ha : PE X a (E' X xr W (ev G x))) : PI X (.Tuple elts kk tpos) (.Call (.Name "enumerate" p) [a] [] pos) (I' X xr W (evi G (.enum x))) := by
  refine piM (pi_enumK hg (C.blt _ (by decide)) (pa_cons ha pa_nil (se_cons hs)) (by rw [se_cons hs]; rfl)) fun σ H R => ?_
  rintro ⟨ρ, s, M, sim, sl, h⟩
  simp only [evi] at h
  refine ⟨ρ, s, M, sim, sl, Rs.imp (Rs.bind h) fun d M1 ρ1 H1 x1 k1 s1 h1 v r => ?_⟩
  obtain ⟨sr, e1, q⟩ := h1.ofO s1
  obtain ⟨b, tp, rfl, hk, vs, hq⟩ := src_of s1 r e1
  exact ⟨b, tp, vs, rfl, hq, q _ (j_enum hk)⟩
theorem i_zip {elts : List Expr} {kk : Nat} {tpos : Pos} {a b : Expr} {p pos : Pos} {x y : Ir} (C : Ctx G xr W X N sc) (hg : L2.Gl X "zip") (hs : starred a = false) (hs2 : starred b = false) (ha : PE X a (E' X xr W (ev G x))) (hb : PE X b (E' X xr W (ev G y))) : PI X (.Tuple elts kk tpos) (.Call (.Name "zip" p) [a, b] [] pos) (I' X xr W (evi G (.zip x y))) := by
  refine piM (pi_zipK hg (C.blt _ (by decide)) (pa_cons ha (pa_cons hb pa_nil (se_cons hs2)) (se_cons hs)) (by rw [se_cons hs]) (by rw [se_cons hs2]; rfl)) fun σ H R => ?_
  rintro ⟨ρ, s, M, sim, sl, h⟩
  simp only [evi] at h
  refine ⟨ρ, s, M, sim, sl, Rs.imp (Rs.bind h) fun d M1 ρ1 H1 x1 k1 s1 h1 v r => ?_⟩
  refine ⟨ρ1, s, M1, s1, sl.mono k1 x1, Rs.imp (Rs.bind h1) fun e M2 ρ2 H2 x2 k2 s2 h2 v2 r2 => ?_⟩
  split at h2
  · rename_i sr sr' e1 e2
    obtain ⟨a1, tp, rfl, hk, vs, hq⟩ := src_of s2 (RD.mono k2 x2 _ _ r) e1
    obtain ⟨b1, tq, rfl, hk', ws, hp⟩ := src_of s2 r2 e2
    exact ⟨a1, b1, tp, tq, vs, ws, rfl, hq, hp, h2.now s2 _ (j_zip hk hk')⟩
  · exact h2.elim
end
end Mp

set_option Elab.async false
set_option linter.all false
set_option maxRecDepth 100000
set_option maxHeartbeats 4000000
set_option autoImplicit false
namespace Mp
open PySem PySem.Spec L2
section
variable {G : Gl} {xr : XR} {W : WX} {X : Cx} {N : List Str} {sc : Names}
theorem e_bad {e : Expr} : PE X e (E' X xr W (ev G .bad)) := ⟨fun pins s σ H Q I h => by
  obtain ⟨_, _, _, _, _, h⟩ := h
  exact h.elim⟩
theorem t_bad {e : Expr} : PT X e (T' X xr W (tst G .bad)) := ⟨fun pins s σ H Q I h => by
  obtain ⟨_, _, _, _, _, h⟩ := h
  exact h.elim⟩
theorem w_bad {e : Expr} : PW X e (T' X xr W (tst G .bad)) := ⟨fun wh pins s σ H Q I h => by
  obtain ⟨_, _, _, _, _, h⟩ := h
  exact h.elim⟩
theorem i_bad {tg e : Expr} : PI X tg e (I' X xr W (evi G .bad)) := ⟨fun pins s σ H Q I h => by
  obtain ⟨_, _, _, _, _, h⟩ := h
  exact h.elim⟩
theorem odd_no {x : Str} (h : oddName x = false) : (x == ("__debug__" : Str)) = false ∧ (x == ("__classdict__" : Str)) = false ∧ x ≠ "__name__" := by
  unfold oddName at h
  rw [Bool.or_eq_false_iff, Bool.or_eq_false_iff] at h
  exact ⟨h.1.1, h.1.2, fun e => by rw [e] at h; exact absurd h.2 (by decide)⟩
theorem bf_ok {f : Str} {n : Nat} {b : Bf} (C : Ctx G xr W X N sc) (h : bfOf f n = some b) : f ∈ bltNames ∧ 0 < n ∧ ((∃ id, CallR X (.builtin id) (rF X xr b) ∧ bootBuiltins f = some (.builtin id)) ∨ ∃ T, CallR X (.type T) (rF X xr b) ∧ bootBuiltins f = some (.type T)) := by
  unfold bfOf at h
  repeat' (first | (cases h; done) | split at h)
  all_goals (rename_i e; obtain ⟨e1, e2⟩ := e; subst e1; subst e2; cases h)
  · exact ⟨by decide, by decide, .inl ⟨_, b_len, by decide +kernel⟩⟩
  · exact ⟨by decide, by decide, .inl ⟨_, b_repr C, by decide +kernel⟩⟩
  · exact ⟨by decide, by decide, .inr ⟨_, b_tuple, by decide +kernel⟩⟩
  · exact ⟨by decide, by decide, .inr ⟨_, b_list, by decide +kernel⟩⟩
  · exact ⟨by decide, by decide, .inl ⟨_, b_sum C, by decide +kernel⟩⟩
  · exact ⟨by decide, by decide, .inl ⟨_, b_min2 C, by decide +kernel⟩⟩
  · exact ⟨by decide, by decide, .inl ⟨_, b_max2 C, by decide +kernel⟩⟩
  · exact ⟨by decide, by decide, .inl ⟨_, b_abs, by decide +kernel⟩⟩
theorem h_blt {f : Str} {p pos : Pos} {es : List Expr} {b : Bf} {l : Irs} (C : Ctx G xr W X N sc) (h : bfOf f es.length = some b) (hg : glo sc f = true) (ho : oddName f = false) (hs : es.any starred = false) (ha : PA X es (L' X xr W (evs G l))) : PE X (.Call (.Name f p) es [] pos) (E' X xr W (ev G (.blt b l))) := by
  obtain ⟨h1, h2, h3⟩ := bf_ok C h
  obtain ⟨o1, o2, o3⟩ := odd_no ho
  cases es with
  | nil => exact absurd h2 (by simp)
  | cons e es =>
    rcases h3 with ⟨id, hc, hv⟩ | ⟨T, hc, hv⟩
    · exact n_bltB C hc (C.gl f hg) h1 hv hs o3 o1 ha
    · exact n_bltT C hc (C.gl f hg) h1 hv hs o3 o1 ha
section
variable {r : Expr → Ir} (hr : ∀ e, PE X e (E' X xr W (ev G (r e))))
include hr
theorem h_args {es : List Expr} (hs : es.any starred = false) : PA X es (L' X xr W (evs G (irs (es.map r)))) := n_args hs fun e _ => hr e
omit hr in
theorem rg_form {x : Expr} {rs : List Expr} (h : isRange sc x = some rs) : ∃ p q, x = .Call (.Name "range" p) rs [] q ∧ glo sc "range" = true ∧ starred x = false := by
  unfold isRange at h
  split at h
  · split at h
    · rename_i hc
      obtain ⟨rfl, hg, _⟩ := hc
      cases h
      exact ⟨_, _, rfl, hg, rfl⟩
    · cases h
  · cases h
theorem h_rg {b : Bf} {f : Str} {p pos : Pos} {x : Expr} {rs : List Expr} (C : Ctx G xr W X N sc) (h : isRange sc x = some rs) (hb : f = "tuple" ∧ b = .tupleR ∨ f = "list" ∧ b = .listR) (hg : glo sc f = true) : PE X (.Call (.Name f p) [x] [] pos) (E' X xr W (ev G (cRg r b x rs))) := by
  obtain ⟨p1, q1, rfl, hgr, hsx⟩ := rg_form h
  unfold cRg
  rw [hsx, if_neg Bool.false_ne_true]
  have key : ∀ l : Irs, PRg X (.Call (.Name "range" p1) rs [] q1) (rgT X xr W (evs G l)) → PE X (.Call (.Name f p) [.Call (.Name "range" p1) rs [] q1] [] pos) (E' X xr W (ev G (.blt b l))) := by
    intro l hl
    rcases hb with ⟨rfl, rfl⟩ | ⟨rfl, rfl⟩
    · exact n_tupR C (C.gl _ hg) hsx hl
    · exact n_lstR C (C.gl _ hg) hsx hl
  split
  · split
    · exact e_bad
    · rename_i hs
      exact key _ (prg1 C (C.gl _ hgr) (by simpa using hs) (hr _))
  · split
    · exact e_bad
    · rename_i hs
      simp only [Bool.or_eq_true, not_or, Bool.not_eq_true] at hs
      exact key _ (prg2 C (C.gl _ hgr) hs.1 hs.2 (hr _) (hr _))
  · exact e_bad
theorem h_of {b br : Bf} {f : Str} {p pos : Pos} {es : List Expr} (C : Ctx G xr W X N sc) (h : bfOf f es.length = some b) (hb : f = "tuple" ∧ br = .tupleR ∨ f = "list" ∧ br = .listR) (hg : glo sc f = true) (ho : oddName f = false) (hs : es.any starred = false) : PE X (.Call (.Name f p) es [] pos) (E' X xr W (ev G (cOf r sc b br es))) := by
  unfold cOf
  split
  · split
    · rename_i rs e; exact h_rg hr C e hb hg
    · exact h_blt C h hg ho hs (h_args hr hs)
  · exact e_bad
theorem h_call {f : Str} {p pos : Pos} {es : List Expr} (C : Ctx G xr W X N sc) : PE X (.Call (.Name f p) es [] pos) (E' X xr W (ev G (cCall r sc f es))) := by
  unfold cCall
  split
  · exact e_bad
  · rename_i hc
    simp only [Bool.or_eq_true, Bool.not_eq_true', not_or, Bool.not_eq_true, Bool.not_eq_false] at hc
    obtain ⟨⟨hs, hg⟩, ho⟩ := hc
    obtain ⟨o1, o2, o3⟩ := odd_no ho
    split
    · rename_i hf
      subst hf
      unfold cIsi
      split
      · split
        · rename_i hq
          simp only [Bool.and_eq_true, Bool.not_eq_true'] at hq
          split
          · rename_i x hx
            exact n_isi C (C.gl _ hg) (C.gl _ hq.1) hx hq.2 (hr _)
          · exact e_bad
        · exact e_bad
      · exact e_bad
    · split
      · rename_i hb
        refine h_of hr C hb (.inl ⟨?_, rfl⟩) hg ho hs
        unfold bfOf at hb
        repeat' (first | (cases hb; done) | split at hb)
        rename_i e; exact e.1
      · rename_i hb
        refine h_of hr C hb (.inr ⟨?_, rfl⟩) hg ho hs
        unfold bfOf at hb
        repeat' (first | (cases hb; done) | split at hb)
        rename_i e; exact e.1
      · rename_i b _ _ hb
        exact h_blt C hb hg ho hs (h_args hr hs)
      · cases es with
        | nil => exact n_call0 C (C.gl f hg) o1
        | cons e es => exact n_call C (C.gl f hg) o1 hs (h_args hr hs)
theorem h_callK {f : Str} {p pos : Pos} {es : List Expr} {kws : List Keyword} (C : Ctx G xr W X N sc) : PE X (.Call (.Name f p) es kws pos) (E' X xr W (ev G (cCallK r sc f es kws))) := by
  unfold cCallK
  split
  · exact e_bad
  · rename_i hc
    simp only [Bool.or_eq_true, Bool.not_eq_true', not_or, Bool.not_eq_true, Bool.not_eq_false] at hc
    obtain ⟨⟨hs, hg⟩, ho⟩ := hc
    obtain ⟨o1, o2, o3⟩ := odd_no ho
    split
    · rename_i ks hk
      exact n_callK C (C.gl f hg) o1 hs hk (fun e => by subst e; rfl) (h_args hr hs) (n_kws fun k _ => hr k.value)
    · exact e_bad
theorem h_mth {o : Expr} {m : Str} {ap cp : Pos} {es : List Expr} : PE X (.Call (.Attribute o m ap) es [] cp) (E' X xr W (ev G (cMth r o m ap cp es))) := by
  unfold cMth
  split
  · exact e_bad
  · rename_i hc
    simp only [Bool.or_eq_true, Bool.not_eq_true', not_or, Bool.not_eq_true, Bool.not_eq_false] at hc
    obtain ⟨⟨hs, hb⟩, hl⟩ := hc
    split
    · rename_i f hf
      unfold mfOf at hf
      repeat' (first | (cases hf; done) | split at hf)
      all_goals (rename_i e; obtain ⟨e1, e2⟩ := e; subst e1; cases hf)
      · match es, e2, hs with
        | [e], _, hs =>
          simp only [List.any_cons, List.any_nil, Bool.or_false] at hs
          exact n_mth1 PySem.F.slot_list_append PySem.F.type_list_append m_append hb hl hs (hr o) (h_args hr (by simp [hs]))
      · match es, e2 with
        | [], _ => exact n_mth0 PySem.F.slot_list_pop PySem.F.type_list_pop m_pop hb hl (hr o)
      · match es, e2, hs with
        | [e], _, hs =>
          simp only [List.any_cons, List.any_nil, Bool.or_false] at hs
          exact n_mth1 PySem.F.slot_list_pop PySem.F.type_list_pop m_popAt hb hl hs (hr o) (h_args hr (by simp [hs]))
    · exact e_bad
theorem h_part {o : Option Expr} : PO X o (O' X xr W (evo G (cPart r o))) := by
  cases o with
  | none => exact o_non
  | some e => exact o_som (hr e)
theorem h_sub {a i : Expr} {pos : Pos} (C : Ctx G xr W X N sc) : PE X (.Subscript a i pos) (E' X xr W (ev G (cSub r a i))) := by
  unfold cSub
  split
  · exact n_slc (hr a) (h_part hr) (h_part hr)
  · rename_i hn
    split
    · exact e_bad
    · rename_i hc
      simp only [Bool.or_eq_true, not_or, Bool.not_eq_true] at hc
      refine n_idx C (fun lo hi st p e => ?_) (fun es k p e => ?_) (hr a) (hr i)
      · subst e; cases hc.1
      · subst e; cases hc.2
theorem h_dct {ks : List (Option Expr)} {vs : List Expr} {pos : Pos} : PE X (.Dict ks vs pos) (E' X xr W (ev G (cDct r ks vs))) := by
  unfold cDct
  split
  · rename_i l hl
    split
    · rename_i hc; exact n_dct hl hc.1 hc.2 fun e _ => hr e
    · exact e_bad
  · exact e_bad
theorem h_iter {tg e : Expr} (C : Ctx G xr W X N sc) : PI X tg e (I' X xr W (evi G (cIter r sc (isTupE tg) e))) := by
  unfold cIter
  split
  · rename_i f p es q
    split
    · rename_i hc
      rw [Bool.and_eq_true] at hc
      have hf : f = "range" := eq_of_beq hc.2
      subst hf
      split
      · split
        · exact i_bad
        · rename_i hs
          have hs' := Bool.eq_false_iff.mpr hs
          exact i_rng1 C (C.gl _ hc.1) hs' (h_args hr (es := [_]) (by simp [hs'])) ⟨_, rfl⟩
      · split
        · exact i_bad
        · rename_i hs
          simp only [Bool.or_eq_true, not_or, Bool.not_eq_true] at hs
          exact i_rng2 C (C.gl _ hc.1) hs.1 hs.2 (h_args hr (es := [_, _]) (by simp [hs])) ⟨_, _, rfl⟩
      · exact i_bad
    · split
      · rename_i hc
        rw [Bool.and_eq_true] at hc
        have hf : f = "enumerate" := eq_of_beq hc.2
        subst hf
        split
        · split
          · exact i_bad
          · rename_i hs
            simp only [Bool.or_eq_true, Bool.not_eq_true', not_or, Bool.not_eq_true, Bool.not_eq_false] at hs
            obtain ⟨hs1, hs2⟩ := hs
            cases tg <;> first
              | (cases hs2; done)
              | exact i_enum C (C.gl _ hc.1) hs1 (hr _)
        · exact i_bad
      · split
        · rename_i hc
          rw [Bool.and_eq_true] at hc
          have hf : f = "zip" := eq_of_beq hc.2
          subst hf
          split
          · split
            · exact i_bad
            · rename_i hs
              simp only [Bool.or_eq_true, Bool.not_eq_true', not_or, Bool.not_eq_true, Bool.not_eq_false] at hs
              obtain ⟨⟨hs1, hs3⟩, hs2⟩ := hs
              cases tg <;> first
                | (cases hs2; done)
                | exact i_zip C (C.gl _ hc.1) hs1 hs3 (hr _) (hr _)
          · exact i_bad
        · exact i_e (hr _)
  · split
    · exact i_bad
    · exact i_e (hr _)
end
end
end Mp

set_option Elab.async false
set_option linter.all false
set_option maxRecDepth 100000
set_option maxHeartbeats 4000000
set_option autoImplicit false
namespace Mp
open PySem PySem.Spec L2
section
variable {G : Gl} {xr : XR} {N : List Str}
theorem sw_no {e : Expr} {l : Nat} {t : Option Expr} {env : Env} (h : ∀ el gs s p, e ≠ .ListComp el gs s p) (h2 : ∀ el gs s p, e ≠ .SetComp el gs s p) (h3 : ∀ k el gs s p, e ≠ .DictComp k el gs s p) : swapsWith e t l env = pure false := by
  cases e <;> first
    | rfl
    | (exact absurd rfl (h _ _ _ _))
    | (exact absurd rfl (h2 _ _ _ _))
    | (exact absurd rfl (h3 _ _ _ _ _))
theorem fsi {e : Expr} (h : isSetE e = false) (env : Env) (y : Value) : foldedSetIterable e env y = pure y := by
  unfold foldedSetIterable
  cases e <;> first | rfl | (cases h)
/-- a comprehension's parts -/
theorem h_lc {W : WX} {X : Cx} {sc : Names} {r : Names → Expr → Ir} (C : Ctx G xr W X N sc) (hr : ∀ (W : WX) (X : Cx) (sc : Names), Ctx G xr W X N sc → (∀ e, PE X e (E' X xr W (ev G (r sc e)))) ∧ ∀ e, PT X e (T' X xr W (tst G (r sc e))))
    {el tg it : Expr} {ifs : List Expr} {scope : Scope} : cLc N sc r el tg it ifs scope = .bad ∨ ∃ (t : Tg) (vs : List Nat) (itr : Itr) (ci : Irs) (x : Ir), cLc N sc r el tg it ifs scope = .lc vs t itr ci x ∧ BlkOk X.N X.env.scope scope ((ownOf scope).zip vs) ∧ ((ownOf scope).zip vs).map (·.2) = vs ∧
      PI X tg it (I' X xr W (evi G itr)) ∧ (∀ (s : Shared) (H : Hp) (c : Addr) (cl : List (Str × Addr)) (fp : List Addr), PG (X.blk s H scope (compEnvC scope cl c X.env) fp) tg (gT X.K t)) ∧
      (∀ (s : Shared) (H : Hp) (c : Addr) (cl : List (Str × Addr)) (fp : List Addr), PTs (X.blk s H scope (compEnvC scope cl c X.env) fp) ifs (tT X.K xr W0 (evc G ci))) ∧
      (∀ (s : Shared) (H : Hp) (c : Addr) (cl : List (Str × Addr)) (fp : List Addr), PE (X.blk s H scope (compEnvC scope cl c X.env) fp) el (tE X.K xr W0 (ev G x))) ∧
      (∀ y, foldedSetIterable it X.env y = pure y) ∧ ∀ σ H Q, E' X xr W (ev G (.lc vs t itr ci x)) σ H Q → tLc (I' X xr W (evi G itr)) (gT X.K t) (tT X.K xr W0 (evc G ci)) (tE X.K xr W0 (ev G x)) vs σ H Q := by
  unfold cLc
  split
  · rename_i t vs ht hv
    split
    · exact .inl rfl
    · rename_i hc
      simp only [Bool.or_eq_true, Bool.not_eq_true', not_or, Bool.not_eq_true, Bool.not_eq_false, List.all_eq_true, List.contains_eq_mem, decide_eq_true_eq] at hc
      obtain ⟨⟨⟨hb, hts⟩, hl⟩, hse⟩ := hc
      have hl' : ¬ 1 < ifs.length := hl
      have bc : ∀ (s : Shared) (H : Hp) (c : Addr) (cl : List (Str × Addr)) (fp : List Addr), Ctx G xr W0 (X.blk s H scope (compEnvC scope cl c X.env) fp) N scope.names := fun s H c cl fp => blk_ctx C hb s H c cl fp
      have hi : PI X tg it (I' X xr W (evi G (cIter (r sc) sc (isTupE tg) it))) := h_iter (hr W X sc C).1 C
      have hg : ∀ (s : Shared) (H : Hp) (c : Addr) (cl : List (Str × Addr)) (fp : List Addr), PG (X.blk s H scope (compEnvC scope cl c X.env) fp) tg (gT X.K t) := fun s H c cl fp => p_tg (bc s H c cl fp) ht
      have hcs : ∀ (s : Shared) (H : Hp) (c : Addr) (cl : List (Str × Addr)) (fp : List Addr), PTs (X.blk s H scope (compEnvC scope cl c X.env) fp) ifs (tT X.K xr W0 (evc G (irs (ifs.map (r scope.names))))) := fun s H c cl fp => n_ifs hl' fun e _ => (hr _ _ _ (bc s H c cl fp)).2 e
      have hee : ∀ (s : Shared) (H : Hp) (c : Addr) (cl : List (Str × Addr)) (fp : List Addr), PE (X.blk s H scope (compEnvC scope cl c X.env) fp) el (tE X.K xr W0 (ev G (r scope.names el))) := fun s H c cl fp => (hr _ _ _ (bc s H c cl fp)).1 el
      have hfs : ∀ y, foldedSetIterable it X.env y = pure y := fsi hse X.env
      refine .inr ⟨t, vs, _, _, _, rfl, own_ok C hb hv, List.map_snd_zip (Nat.le_of_eq (mapO_len hv)), hi, hg, hcs, hee, hfs, n_lc C hb hv hts hi hg hcs hee hfs⟩
  · exact .inl rfl
theorem e_lc {W : WX} {X : Cx} {sc : Names} {r : Names → Expr → Ir} (C : Ctx G xr W X N sc) (hr : ∀ (W : WX) (X : Cx) (sc : Names), Ctx G xr W X N sc → (∀ e, PE X e (E' X xr W (ev G (r sc e)))) ∧ ∀ e, PT X e (T' X xr W (tst G (r sc e))))
    {el tg it : Expr} {ifs : List Expr} {scope : Scope} {pos : Pos} : PE X (.ListComp el [⟨tg, it, ifs, 0⟩] scope pos) (E' X xr W (ev G (cLc N sc r el tg it ifs scope))) := by
  rcases h_lc C hr (el := el) (tg := tg) (it := it) (ifs := ifs) (scope := scope) with e | ⟨t, vs, itr, ci, x, e, ok, hm, hi, hg, hcs, hee, hfs, h⟩
  · rw [e]; exact e_bad
  · rw [e]
    have q := pe_lc (pos := pos) C.calm (by rw [C.hN]; exact C.nd) hi ok hg hcs hee hfs
    rw [hm] at q
    exact peM q h
theorem sE : ∀ (n : Nat) (W : WX) (X : Cx) (sc : Names), Ctx G xr W X N sc →
    (∀ e, PE X e (E' X xr W (ev G (cE n N sc e)))) ∧ (∀ e, PT X e (T' X xr W (tst G (cE n N sc e)))) ∧ ∀ op vs p, PW X (.BoolOp op vs p) (T' X xr W (tst G (cE n N sc (.BoolOp op vs p))))
  | 0, W, X, sc, C => ⟨fun e => e_bad, fun e => t_bad, fun _ _ _ => w_bad⟩
  | n + 1, W, X, sc, C => by
    obtain ⟨ihE, ihT, ihW⟩ := sE n W X sc C
    have hr : ∀ (W : WX) (X : Cx) (sc : Names), Ctx G xr W X N sc → (∀ e, PE X e (E' X xr W (ev G (cE n N sc e)))) ∧ ∀ e, PT X e (T' X xr W (tst G (cE n N sc e))) := fun W X sc C => ⟨(sE n W X sc C).1, (sE n W X sc C).2.1⟩
    have hE : ∀ e, PE X e (E' X xr W (ev G (cE (n + 1) N sc e))) := by
      intro e
      cases e with
      | Constant v k pos =>
        cases v <;> first
          | exact e_bad
          | exact n_c pe_non fun _ _ => .non
          | exact n_c pe_bl fun _ _ => .bl _
          | exact n_c pe_int fun _ _ => .int _
          | exact n_c pe_str fun _ _ => .str _
      | Name x pos =>
        show PE X _ (E' X xr W (ev G (if oddName x then .bad else if vis sc x then (match slotOf N x with | some i => .v i | none => .bad) else if glo sc x then .g x else .bad)))
        split
        · exact e_bad
        · rename_i ho
          obtain ⟨o1, o2, o3⟩ := odd_no (Bool.eq_false_iff.mpr ho)
          split
          · rename_i hv
            split
            · rename_i i hi
              exact n_v (by rw [C.hN]; exact slot_ix hi) (C.vis x hv) o1 o2
            · exact e_bad
          · split
            · rename_i hg; exact n_g C (C.gl x hg) o1
            · exact e_bad
      | BinOp a o b pos =>
        show PE X _ (E' X xr W (ev G (match bopOf o with | some p => .bin p (cE n N sc a) (cE n N sc b) | none => .bad)))
        split
        · rename_i p hp; exact n_bin hp (ihE a) (ihE b)
        · exact e_bad
      | UnaryOp o a pos =>
        cases o <;> first
          | exact e_bad
          | exact n_not (ihE a)
          | exact n_neg (ihE a)
      | BoolOp o vs pos =>
        match o, vs with
        | .And, [] => exact e_bad
        | .Or, [] => exact e_bad
        | .And, [a] => exact pe_one (ihE a)
        | .Or, [a] => exact pe_one (ihE a)
        | .And, a :: b :: l => exact n_an (ihE a) (ihE _)
        | .Or, a :: b :: l => exact n_or (ihE a) (ihE _)
      | IfExp c a b pos => exact n_ite (ihT c) (ihE a) (ihE b)
      | Compare a ops cs pos =>
        match ops, cs with
        | [o], [b] =>
          show PE X _ (E' X xr W (ev G (if behindInMarks o b = true then .bad else .cmp (copOf o) (cE n N sc a) (cE n N sc b))))
          split
          · exact e_bad
          · rename_i hm; exact n_cmp C (Bool.eq_false_iff.mpr hm) (ihE a) (ihE b)
        | [o, p], [b, c] =>
          show PE X _ (E' X xr W (ev G (if lastMarks [o, p] [b, c] = true then .bad else .chn (copOf o) (copOf p) (cE n N sc a) (cE n N sc b) (cE n N sc c))))
          split
          · exact e_bad
          · rename_i hm; exact n_chn C (Bool.eq_false_iff.mpr hm) (ihE a) (ihE b) (ihE c)
        | [], _ => exact e_bad
        | [_], [] => exact e_bad
        | [_], _ :: _ :: _ => exact e_bad
        | [_, _], [] => exact e_bad
        | [_, _], [_] => exact e_bad
        | [_, _], _ :: _ :: _ :: _ => exact e_bad
        | _ :: _ :: _ :: _, _ => exact e_bad
      | Tuple es k pos =>
        show PE X _ (E' X xr W (ev G (if es.any starred then .bad else .tup (irs (es.map (cE n N sc))))))
        split
        · exact e_bad
        · rename_i hs; exact n_tup (h_args ihE (Bool.eq_false_iff.mpr hs))
      | List es pos =>
        show PE X _ (E' X xr W (ev G (if es.any starred then .bad else .lst (irs (es.map (cE n N sc))))))
        split
        · exact e_bad
        · rename_i hs; exact n_lst (h_args ihE (Bool.eq_false_iff.mpr hs))
      | Dict ks vs pos => exact h_dct ihE
      | Subscript a i pos => exact h_sub ihE C
      | Call f es kws pos =>
        cases f <;> first
          | exact e_bad
          | skip
        · rename_i o m ap
          show PE X _ (E' X xr W (ev G (if kws.isEmpty then cMth (cE n N sc) o m ap pos es else .bad)))
          split
          · rename_i hk
            have : kws = [] := by cases kws <;> first | rfl | cases hk
            subst this
            exact h_mth ihE
          · exact e_bad
        · rename_i f p
          show PE X _ (E' X xr W (ev G (if kws.isEmpty then cCall (cE n N sc) sc f es else cCallK (cE n N sc) sc f es kws)))
          split
          · rename_i hk
            have : kws = [] := by cases kws <;> first | rfl | cases hk
            subst this
            exact h_call ihE C
          · exact h_callK ihE C
      | ListComp el gs scope pos =>
        match gs with
        | [] => exact e_bad
        | ⟨_, _, _, _⟩ :: _ :: _ => exact e_bad
        | [⟨tg, it, ifs, a⟩] =>
          show PE X _ (E' X xr W (ev G (if a = 0 then cLc N sc (cE n N) el tg it ifs scope else .bad)))
          split
          · rename_i ha
            subst ha
            exact e_lc C hr
          · exact e_bad
      | _ => exact e_bad
    have hW : ∀ op vs p, PW X (.BoolOp op vs p) (T' X xr W (tst G (cE (n + 1) N sc (.BoolOp op vs p)))) := by
      intro o vs p
      match o, vs with
      | .And, [] => exact w_bad
      | .Or, [] => exact w_bad
      | .And, [a] => exact pw_and1 (ihT a)
      | .Or, [a] => exact pw_or1 (ihT a)
      | .And, a :: b :: l => exact t_an (ihT a) (ihW _ _ _)
      | .Or, a :: b :: l => exact t_or (ihT a) (ihW _ _ _)
    refine ⟨hE, fun e => ?_, hW⟩
    cases e with
    | BoolOp o vs p => exact (hW o vs p).pt
    | UnaryOp o a pos =>
      cases o <;> first
        | exact t_bad
        | exact t_not (ihT a)
        | exact t_plain (hE _) fun _ => rfl
    | IfExp c a b pos => exact t_ite (ihT c) (ihT a) (ihT b)
    | Compare a ops cs pos =>
      match ops, cs with
      | [o], [b] =>
        show PT X _ (T' X xr W (tst G (if behindInMarks o b = true then .bad else .cmp (copOf o) (cE n N sc a) (cE n N sc b))))
        split
        · exact t_bad
        · rename_i hm; exact t_cmp C (Bool.eq_false_iff.mpr hm) (ihE a) (ihE b)
      | [o, p], [b, c] =>
        show PT X _ (T' X xr W (tst G (if lastMarks [o, p] [b, c] = true then .bad else .chn (copOf o) (copOf p) (cE n N sc a) (cE n N sc b) (cE n N sc c))))
        split
        · exact t_bad
        · rename_i hm; exact t_chn C (Bool.eq_false_iff.mpr hm) (ihE a) (ihE b) (ihE c)
      | [], _ => exact t_bad
      | [_], [] => exact t_bad
      | [_], _ :: _ :: _ => exact t_bad
      | [_, _], [] => exact t_bad
      | [_, _], [_] => exact t_bad
      | [_, _], _ :: _ :: _ :: _ => exact t_bad
      | _ :: _ :: _ :: _, _ => exact t_bad
    | _ => exact t_plain (hE _) fun _ => rfl
end
end Mp

set_option Elab.async false
set_option linter.all false
set_option maxRecDepth 100000
set_option maxHeartbeats 4000000
set_option autoImplicit false
namespace Mp
open PySem PySem.Spec L2
section
variable (K : PySem.W.Frag) (xr : XR) (W : WX)
def FlR (ρ : List Addr) (H : Hp) (D : Ends) (r : Fl) : Prop := match r with
  | .nx s M => ∀ ρ' H' σ', PX ρ ρ' → KT K H H' → Sim K ρ' M H' → SL K ρ' H' s σ' → D.nx σ' H'
  | .rt d M => ∀ ρ' H' v, PX ρ ρ' → KT K H H' → Sim K ρ' M H' → RD K ρ' H' d v → D.rt v H'
  | .bk s M => ∀ ρ' H' σ', PX ρ ρ' → KT K H H' → Sim K ρ' M H' → SL K ρ' H' s σ' → D.bk σ' H'
  | .ct s M => ∀ ρ' H' σ', PX ρ ρ' → KT K H H' → Sim K ρ' M H' → SL K ρ' H' s σ' → D.ct σ' H'
  | .exc e s M => ∀ ρ' H' σ' c dd, PX ρ ρ' → KT K H H' → Sim K ρ' M H' → SL K ρ' H' s σ' → xr K ρ' H' e c dd → W c dd σ' H'
  | .bad => False
def tS (r : S → Mem → Fl) : TS := fun D σ H => ∃ ρ s M, Sim K ρ M H ∧ SL K ρ H s σ ∧ FlR K xr W ρ H D (r s M)
end
section
variable {G : Gl} {xr : XR} {W : WX} {X : Cx} {N : List Str} {sc : Names}
theorem FlR.later {K : PySem.W.Frag} {ρ ρ1 : List Addr} {H H1 : Hp} {D : Ends} {r : Fl} (h : FlR K xr W ρ H D r) (x : PX ρ ρ1) (k : KT K H H1) : FlR K xr W ρ1 H1 D r := by
  cases r with
  | nx s M => exact fun ρ' H' σ' x' k' => h ρ' H' σ' (x.trans x') (k.trans k')
  | rt d M => exact fun ρ' H' v x' k' => h ρ' H' v (x.trans x') (k.trans k')
  | bk s M => exact fun ρ' H' σ' x' k' => h ρ' H' σ' (x.trans x') (k.trans k')
  | ct s M => exact fun ρ' H' σ' x' k' => h ρ' H' σ' (x.trans x') (k.trans k')
  | exc e s M => exact fun ρ' H' σ' c dd x' k' => h ρ' H' σ' c dd (x.trans x') (k.trans k')
  | bad => exact h
theorem FlR.bind {K : PySem.W.Frag} {α : Type} {ρ : List Addr} {H : Hp} {D : Ends} {r : Res α} {f : α → Mem → Fl} {s : S} {σ : L2.St} (h : FlR K xr W ρ H D (r.fl s f)) (sl : SL K ρ H s σ) : Rs K xr W ρ H σ r fun a M1 ρ1 H1 => FlR K xr W ρ1 H1 D (f a M1) := by
  cases r with
  | ok a M1 => exact fun ρ1 H1 x1 k1 s1 => FlR.later h x1 k1
  | exc e M1 => exact fun ρ1 H1 c dd x1 k1 s1 q => h ρ1 H1 σ c dd x1 k1 s1 (sl.mono k1 x1) q
  | bad => exact h
theorem FlR.now {K : PySem.W.Frag} {ρ : List Addr} {H : Hp} {D : Ends} {s : S} {M : Mem} {σ : L2.St} (h : FlR K xr W ρ H D (.nx s M)) (sim : Sim K ρ M H) (sl : SL K ρ H s σ) : D.nx σ H := h ρ H σ PX.rfl' KT.rfl' sim sl
abbrev S' (X : Cx) (xr : XR) (W : WX) (r : S → Mem → Fl) : TS := tS X.K xr W r
theorem s_bad {st : Stmt} : PS X st (S' X xr W (xs G .bad)) := ⟨fun pins s σ H D I h => by
  obtain ⟨_, _, _, _, _, h⟩ := h
  exact h.elim⟩
theorem s_pas {pos : Pos} : PS X (.Pass pos) (S' X xr W (xs G .pas)) := psM ps_pass fun D σ H ⟨ρ, s, M, sim, sl, h⟩ => h.now sim sl
theorem s_brk {pos : Pos} : PS X (.Break pos) (S' X xr W (xs G .brk)) := psM ps_break fun D σ H ⟨ρ, s, M, sim, sl, h⟩ => h ρ H σ PX.rfl' KT.rfl' sim sl
theorem s_cnt {pos : Pos} : PS X (.Continue pos) (S' X xr W (xs G .cnt)) := psM ps_continue fun D σ H ⟨ρ, s, M, sim, sl, h⟩ => h ρ H σ PX.rfl' KT.rfl' sim sl
theorem s_retN {pos : Pos} : PS X (.Return none pos) (S' X xr W (xs G .retN)) := psM ps_retN fun D σ H ⟨ρ, s, M, sim, sl, h⟩ => h ρ H .non PX.rfl' KT.rfl' sim .non
theorem s_ret {e : Expr} {pos : Pos} {x : Ir} (he : PE X e (E' X xr W (ev G x))) : PS X (.Return (some e) pos) (S' X xr W (xs G (.ret x))) := by
  refine psM (ps_ret he) fun D σ H => ?_
  rintro ⟨ρ, s, M, sim, sl, h⟩
  simp only [xs] at h
  exact ⟨ρ, s, M, sim, sl, Rs.imp (h.bind sl) fun d M1 ρ1 H1 x1 k1 s1 h1 v r => h1 ρ1 H1 v PX.rfl' KT.rfl' s1 r⟩
theorem sw_f {e : Expr} (h : isLCE e = false) (t : Option Expr) (l : Nat) (env : Env) : swapsWith e t l env = pure false := by
  cases e <;> first | rfl | cases h
theorem s_ex {e : Expr} {pos : Pos} {x : Ir} (hl : isLCE e = false) (he : PE X e (E' X xr W (ev G x))) : PS X (.Expr e pos) (S' X xr W (xs G (.ex x))) := by
  refine psM (ps_expr he (sw_f hl _ _ _)) fun D σ H => ?_
  rintro ⟨ρ, s, M, sim, sl, h⟩
  simp only [xs] at h
  exact ⟨ρ, s, M, sim, sl, Rs.imp (h.bind sl) fun d M1 ρ1 H1 x1 k1 s1 h1 v r => h1.now s1 (sl.mono k1 x1)⟩
/-! ### blocks -/
theorem ss_nil : PSs X [] (S' X xr W (xss G .nil)) := pssM pss_nil fun D σ H ⟨ρ, s, M, sim, sl, h⟩ => h.now sim sl
theorem ss_cons {st : Stmt} {rest : List Stmt} {a : Sm} {l : Sms} (h1 : PS X st (S' X xr W (xs G a))) (h2 : PSs X rest (S' X xr W (xss G l))) : PSs X (st :: rest) (S' X xr W (xss G (.cons a l))) := by
  refine pssM (pss_cons h1 h2) fun D σ H => ?_
  rintro ⟨ρ, s, M, sim, sl, h⟩
  simp only [xss] at h
  refine ⟨ρ, s, M, sim, sl, ?_⟩
  cases e : xs G a s M with
  | nx s1 M1 =>
    rw [e] at h
    exact fun ρ1 H1 σ1 x1 k1 sim1 sl1 => ⟨ρ1, s1, M1, sim1, sl1, FlR.later h x1 k1⟩
  | rt d M1 => rw [e] at h; exact h
  | bk s1 M1 => rw [e] at h; exact h
  | ct s1 M1 => rw [e] at h; exact h
  | exc x s1 M1 => rw [e] at h; exact h
  | bad => rw [e] at h; exact h
theorem s_if {c : Expr} {a b : List Stmt} {pos : Pos} {x : Ir} {p q : Sms} (hc : PT X c (T' X xr W (tst G x))) (ha : PSs X a (S' X xr W (xss G p))) (hb : PSs X b (S' X xr W (xss G q))) : PS X (.If c a b pos) (S' X xr W (xs G (.iff x p q))) := by
  refine psM (ps_if hc ha hb) fun D σ H => ?_
  rintro ⟨ρ, s, M, sim, sl, h⟩
  simp only [xs] at h
  refine ⟨ρ, s, M, sim, sl, Rs.imp (h.bind sl) fun k M1 ρ1 H1 x1 k1 s1 h1 => ?_⟩
  cases k with
  | true => rw [if_pos rfl] at h1 ⊢; exact ⟨ρ1, s, M1, s1, sl.mono k1 x1, h1⟩
  | false => rw [if_neg Bool.false_ne_true] at h1 ⊢; exact ⟨ρ1, s, M1, s1, sl.mono k1 x1, h1⟩
theorem s_whl {c : Expr} {b : List Stmt} {pos : Pos} {x : Ir} {p : Sms} (hp : PassesOwn (model X.prog X.w) X.A X.env X.xe) (hc : PT X c (T' X xr W (tst G x))) (hb : PSs X b (S' X xr W (xss G p))) : PS X (.While c b [] pos) (S' X xr W (xs G (.whl x p))) := by
  refine psM (ps_while hp hc hb) fun D σ H => ?_
  rintro ⟨ρ, s, M, sim, sl, h⟩
  simp only [xs] at h
  refine ⟨fun m σ H => ∃ ρ s M, Sim X.K ρ M H ∧ SL X.K ρ H s σ ∧ FlR X.K xr W ρ H D (whGo (tst G x) (xss G p) m s M), ⟨G.L, ρ, s, M, sim, sl, h⟩, ?_⟩
  rintro m σ H ⟨ρ, s, M, sim, sl, h⟩
  cases m with
  | zero => exact h.elim
  | succ m =>
    unfold whGo at h
    refine ⟨ρ, s, M, sim, sl, Rs.imp (h.bind sl) fun k M1 ρ1 H1 x1 k1 s1 h1 => ?_⟩
    have sl1 := sl.mono k1 x1
    cases k with
    | false => rw [if_neg Bool.false_ne_true] at h1; dsimp only; rw [if_neg Bool.false_ne_true]; exact h1.now s1 sl1
    | true =>
      rw [if_pos rfl] at h1
      dsimp only
      rw [if_pos rfl]
      refine ⟨fun σ H => ∃ ρ s M, Sim X.K ρ M H ∧ SL X.K ρ H s σ ∧ FlR X.K xr W ρ H D (whGo (tst G x) (xss G p) m s M), fun σ' H' q => ⟨m, Nat.lt_succ_self m, q⟩, ρ1, s, M1, s1, sl1, ?_⟩
      cases e : xss G p s M1 with
      | nx s2 M2 => rw [e] at h1; exact fun ρ2 H2 σ2 x2 k2 sim2 sl2 => ⟨ρ2, s2, M2, sim2, sl2, FlR.later h1 x2 k2⟩
      | ct s2 M2 => rw [e] at h1; exact fun ρ2 H2 σ2 x2 k2 sim2 sl2 => ⟨ρ2, s2, M2, sim2, sl2, FlR.later h1 x2 k2⟩
      | bk s2 M2 => rw [e] at h1; exact fun ρ2 H2 σ2 x2 k2 sim2 sl2 => h1 ρ2 H2 σ2 x2 k2 sim2 sl2
      | rt d M2 => rw [e] at h1; exact h1
      | exc y s2 M2 => rw [e] at h1; exact h1
      | bad => rw [e] at h1; exact h1
theorem s_for {tg iter : Expr} {b : List Stmt} {pos : Pos} {t : Tg} {it : Itr} {p : Sms} (C : Ctx G xr W X N sc) (hp : PassesOwn (model X.prog X.w) X.A X.env X.xe) (hi : PI X tg iter (I' X xr W (evi G it))) (hg : PG X tg (gT X.K t)) (hb : PSs X b (S' X xr W (xss G p)))
    (hs : ∀ y, foldedSetIterable iter X.env y = pure y) : PS X (.For tg iter b [] pos) (S' X xr W (xs G (.fr t it p))) := by
  refine psM (ps_for hp C.calm hi hg hb hs) fun D σ H => ?_
  rintro ⟨ρ, s, M, sim, sl, h⟩
  simp only [xs] at h
  refine ⟨ρ, s, M, sim, sl, Rs.imp (h.bind sl) fun i M1 ρ1 H1 x1 k1 s1 h1 J hJ => ?_⟩
  cases hl : i.now M1 with
  | none => rw [hl] at h1; exact h1.elim
  | some l =>
    rw [hl] at h1
    simp only at h1
    refine ⟨fun j m σ' H' => m = l.length - j ∧ j ≤ l.length ∧ ∃ ρ' s' M', PX ρ1 ρ' ∧ KT X.K H1 H' ∧ Sim X.K ρ' M' H' ∧ SL X.K ρ' H' s' σ' ∧ FlR X.K xr W ρ' H' D (frGo (bindT t) (xss G p) i l.length (l.length - j) s' M'),
      ⟨l.length, by omega, Nat.zero_le _, ρ1, s, M1, PX.rfl', KT.rfl', s1, sl.mono k1 x1, h1⟩, ?_⟩
    rintro j m σ' H' ⟨rfl, hj, ρ', s', M', x2, k2, s2, sl2, h2⟩
    by_cases hlt : j < l.length
    · right
      obtain ⟨n, hn⟩ : ∃ n, l.length - j = n + 1 := ⟨l.length - j - 1, by omega⟩
      rw [hn] at h2
      unfold frGo at h2
      split at h2
      · exact h2.elim
      · rename_i y hy
        obtain ⟨l', hl', hlen, hget⟩ := item_some hy
        obtain ⟨jgo, jstop, jy⟩ := hJ ρ' M' H' x2 k2 s2 l' hl'
        rw [show l.length - (n + 1) = j by omega] at hget
        have n1 : l.length - (j + 1) = n := by omega
        refine ⟨jgo j (by omega), fun σ'' H'' => ∃ ρ'' s'' M'', PX ρ1 ρ'' ∧ KT X.K H1 H'' ∧ Sim X.K ρ'' M'' H'' ∧ SL X.K ρ'' H'' s'' σ'' ∧ FlR X.K xr W ρ'' H'' D (frGo (bindT t) (xss G p) i l.length (l.length - (j + 1)) s'' M''), fun σ'' H'' q => ⟨l.length - (j + 1), by omega, rfl, by omega, q⟩, fun xv H3 yy => ?_⟩
        obtain ⟨d, hd, k3, s3, rd3⟩ := jy j xv H3 (by omega) yy
        rw [hget] at hd
        cases hd
        split at h2
        · exact h2.elim
        · rename_i s4 hbt
          refine g_ok hbt rd3 (sl2.mono k3 PX.rfl') fun σ1 sl4 _ => ⟨ρ', s4, M', s3, sl4, ?_⟩
          rw [n1]
          cases e : xss G p s4 M' with
          | nx s5 M5 => rw [e] at h2; exact fun ρ5 H5 σ5 x5 k5 sim5 sl5 => ⟨ρ5, s5, M5, x2.trans x5, (k2.trans k3).trans k5, sim5, sl5, FlR.later h2 x5 (k3.trans k5)⟩
          | ct s5 M5 => rw [e] at h2; exact fun ρ5 H5 σ5 x5 k5 sim5 sl5 => ⟨ρ5, s5, M5, x2.trans x5, (k2.trans k3).trans k5, sim5, sl5, FlR.later h2 x5 (k3.trans k5)⟩
          | bk s5 M5 => rw [e] at h2; exact fun ρ5 H5 σ5 x5 k5 sim5 sl5 => h2 ρ5 H5 σ5 x5 (k3.trans k5) sim5 sl5
          | rt d M5 => rw [e] at h2; exact fun ρ5 H5 v x5 k5 => h2 ρ5 H5 v x5 (k3.trans k5)
          | exc y s5 M5 => rw [e] at h2; exact fun ρ5 H5 σ5 c dd x5 k5 => h2 ρ5 H5 σ5 c dd x5 (k3.trans k5)
          | bad => rw [e] at h2; exact h2
    · left
      have e0 : l.length - j = 0 := by omega
      have ej : j = l.length := by omega
      rw [e0] at h2
      unfold frGo at h2
      split at h2
      · rename_i hends
        obtain ⟨l', hl', hlen⟩ := ends_some hends
        obtain ⟨jgo, jstop, jy⟩ := hJ ρ' M' H' x2 k2 s2 l' hl'
        rw [ej, ← hlen]
        exact ⟨jstop, h2.now s2 sl2⟩
      · exact h2.elim
end
end Mp

set_option Elab.async false
set_option linter.all false
set_option maxRecDepth 100000
set_option maxHeartbeats 4000000
set_option autoImplicit false
namespace Mp
open PySem PySem.Spec L2
section
variable {G : Gl} {xr : XR} {W : WX} {X : Cx} {N : List Str} {sc : Names}
/-- a target takes what an expression gives -/
theorem s_asg {tg e : Expr} {pos : Pos} {t : Tg} {x : Ir} (he : PE X e (E' X xr W (ev G x))) (hg : PG X tg (gT X.K t)) (hs : swapsWithSole [tg] e pos.line X.env = pure false) (hw : swappedStores [tg] e X.env = pure none) (h1 : (assignEach [tg] X.env).map (·.2) = [assign tg X.env]) :
    PS X (.Assign [tg] e pos) (S' X xr W (xs G (.set (.t t) x))) := by
  refine psM (ps_asg he hg hs hw h1) fun D σ H => ?_
  rintro ⟨ρ, s, M, sim, sl, h⟩
  simp only [xs] at h
  refine ⟨ρ, s, M, sim, sl, Rs.imp (h.bind sl) fun d M1 ρ1 H1 x1 k1 s1 h1 v r => ?_⟩
  split at h1
  · rename_i σ1 hb
    exact g_ok hb r (sl.mono k1 x1) fun σ2 sl2 _ => h1.now s1 sl2
  · exact h1.elim
/-- y = [..], both on one line -/
theorem s_setLc {el tg it : Expr} {ifs : List Expr} {scope : Scope} {pos spos py : Pos} {y : Str} {i : Nat} {r : Names → Expr → Ir} (C : Ctx G xr W X N sc) (hr : ∀ (W : WX) (X : Cx) (sc : Names), Ctx G xr W X N sc → (∀ e, PE X e (E' X xr W (ev G (r sc e)))) ∧ ∀ e, PT X e (T' X xr W (tst G (r sc e))))
    (hy : N[i]? = some y) (hyl : X.env.scope.names.lookup y = some .local) (hsw : swapsWith (.ListComp el [⟨tg, it, ifs, 0⟩] scope pos) (some (.Name y py)) spos.line X.env = pure true) :
    PS X (.Assign [.Name y py] (.ListComp el [⟨tg, it, ifs, 0⟩] scope pos) spos) (S' X xr W (xs G (.set (.t (.n i)) (cLc N sc r el tg it ifs scope)))) := by
  rcases h_lc C hr (el := el) (tg := tg) (it := it) (ifs := ifs) (scope := scope) with e | ⟨t, vs, itr, ci, x, e, ok, hm, hi, hg, hcs, hee, hfs, h⟩
  · rw [e]
    refine ⟨fun pins s σ H D I h => ?_⟩
    obtain ⟨_, _, _, _, _, h⟩ := h
    simp only [xs, ev, Res.fl_bad] at h
    exact h.elim
  · rw [e]
    have q := ps_setLc (spos := spos) C.calm (by rw [C.hN]; exact C.nd) (by rw [C.hN]; exact hy) hyl hsw hi ok hg hcs hee hfs
    rw [hm] at q
    refine psM q fun D σ H => ?_
    rintro ⟨ρ, s, M, sim, sl, h'⟩
    refine h σ H _ ⟨ρ, s, M, sim, sl, ?_⟩
    simp only [xs] at h'
    exact Rs.imp (h'.bind sl) fun d M1 ρ1 H1 x1 k1 s1 h1 v r => h1.now s1 ((sl.mono k1 x1).set r)
theorem sw_lc {el : Expr} {gs : List Comprehension} {scope : Scope} {pos py : Pos} {y : Str} {l : Nat} (C : Ctx G xr W X N sc) : swapsWith (.ListComp el gs scope pos) (some (.Name y py)) l X.env = pure false ∨
    (swapsWith (.ListComp el gs scope pos) (some (.Name y py)) l X.env = pure true ∧ X.env.scope.names.lookup y = some .local) := by
  have e : swapsWith (.ListComp el gs scope pos) (some (.Name y py)) l X.env = pure (X.env.blockKind == .function && X.env.kindOf y == some .local && py.line == pos.line && !(scope.names.any fun (n, k) => n == y && (k == .local || k == .cell))) := rfl
  rw [e]
  cases hb : (X.env.blockKind == .function && X.env.kindOf y == some .local && py.line == pos.line && !(scope.names.any fun (n, k) => n == y && (k == .local || k == .cell))) with
  | false => exact .inl rfl
  | true =>
    right
    simp only [Bool.and_eq_true, beq_iff_eq] at hb
    exact ⟨rfl, hb.1.1.2⟩
/-! ### a, b = x, y -/
theorem args_len {f : Expr → Ir} {s : S} : ∀ {vs : List Expr} {M M1 : Mem} {ds : List D}, evs G (irs (vs.map f)) s M = .ok ds M1 → ds.length = vs.length
  | [], _, _, _, h => by
    simp only [List.map_nil, irs, evs] at h
    cases h; rfl
  | v :: vs, M, M1, ds, h => by
    simp only [List.map_cons, irs, evs] at h
    cases e : ev G (f v) s M with
    | exc _ _ => rw [e] at h; cases h
    | bad => rw [e] at h; cases h
    | ok d M2 =>
      rw [e, Res.bind_ok] at h
      cases e2 : evs G (irs (vs.map f)) s M2 with
      | exc _ _ => rw [e2] at h; cases h
      | bad => rw [e2] at h; cases h
      | ok l M3 =>
        rw [e2, Res.bind_ok] at h
        cases h
        rw [List.length_cons, List.length_cons, args_len e2]
theorem swap_is {ts vs : List Expr} {kt k2 : Nat} {pt pt2 : Pos} (hk : X.env.scope.kind = .function) (hsc : X.env.scope.names = sc) {b : Bool} (h : swapB sc ts vs = some b) : swappedStores [.Tuple ts kt pt] (.Tuple vs k2 pt2) X.env = pure (if b = true then some (locNames sc ts) else none) := by
  have hb : (X.env.blockKind != .function) = false := by unfold Env.blockKind; rw [hk]; rfl
  unfold swapB locNames at h
  unfold locNames swappedStores
  simp only [Env.kindOf, hsc, hb, Bool.or_false, pure_bind]
  have hs : (vs.any fun e => match e with | .Starred .. => true | _ => false) = vs.any starred := by
    congr 1
  split at h
  · rename_i h1
    rw [if_pos h1]; cases h; rfl
  · rename_i h1
    rw [if_neg h1]
    split at h
    · rename_i h2
      refine (if_pos (hs.trans h2)).trans ?_
      cases h; rfl
    · rename_i h2
      refine (if_neg (fun g => h2 (hs.symm.trans g))).trans ?_
      split at h
      · rename_i h3
        refine (if_pos h3).trans ?_
        cases h; rfl
      · rename_i h3
        refine (if_neg h3).trans ?_
        split at h
        · rename_i h4
          refine (if_pos h4).trans ?_
          cases h; rfl
        · rename_i h4
          refine (if_neg h4).trans ?_
          split at h
          · cases h
          · rename_i h5
            refine (if_neg h5).trans ?_
            cases h; rfl
end
end Mp

set_option Elab.async false
set_option linter.all false
set_option maxRecDepth 100000
set_option maxHeartbeats 4000000
set_option autoImplicit false
namespace Mp
open PySem PySem.Spec PySem.W PyProof.Rows L2
section
variable {G : Gl} {xr : XR} {W : WX} {X : Cx} {N : List Str} {sc : Names}
/-! ### o[i] = v -/
def rSet (K : PySem.W.Frag) : TSet := fun o i v H Q => ∃ ρ M a k x, Sim K ρ M H ∧ RD K ρ H a o ∧ RD K ρ H k i ∧ RD K ρ H x v ∧ ∃ M1, setD a k x M = some M1 ∧ ∀ H', KT K H H' → Sim K ρ M1 H' → Q H'
theorem set_d (C : Ctx G xr W X N sc) : PSet X (rSet X.K) := by
  intro pins s σ H o i v ov iv u Q I ro ri rv h
  obtain ⟨ρ, M, a, k, x, sim, ra, rk, rx, M1, h, q⟩ := h
  unfold setD at h
  split at h
  · rename_i n
    cases ra with
    | ref ha =>
      rename_i p
      split at h
      · rename_i l el
        split at h
        · rename_i j
          split at h
          · rename_i hj
            cases h
            cases rk
            obtain ⟨vs, rs, hl⟩ := sim.at el ha
            have kt : KT X.K H (upd H p (.lst (vs.set j.toNat v))) := KT.write hl (fun _ e => by cases e) (fun _ _ e => by cases e)
            refine set_list pins s σ H _ _ v ov iv u Q I ro ri rv ⟨p, vs, j, j.toNat, rfl, rfl, hl, ?_, ?_⟩
            · unfold ixN
              rw [if_pos hj.1, ← rs.length, if_pos hj.2]
            · exact q _ kt (sim.write ha hl (fun _ e => by cases e) (fun _ _ e => by cases e) ⟨_, RDs.mono kt PX.rfl' _ _ (RDs.set rx _ rs), upd_same⟩)
          · cases h
        · cases h
      · rename_i l el
        split at h
        · rename_i kk ek
          split at h
          · rename_i hz
            cases h
            obtain ⟨kvs, e1, rs, hl⟩ := sim.at el ha
            have hk : i = kV kk := by
              cases rk <;> cases ek <;> rfl
            subst hk
            have kt : KT X.K H (upd H p (.dK (putK kvs kk v))) := KT.write hl (fun _ e => by cases e) (fun _ _ e => by cases e)
            obtain ⟨e2, r2⟩ := kput_V (k := kk) rx e1 rs
            have len : kvs.length = l.length := by
              have := congrArg List.length e1
              simpa using this.symm
            have h1000 : 1000 < sizeLine := by decide
            refine set_dict (by have := C.un; omega) pins s σ H _ _ v ov iv u Q I ro ri rv ⟨p, _, rfl, DPut.k hl (by omega), ?_⟩
            exact q _ kt (sim.write ha hl (fun _ e => by cases e) (fun _ _ e => by cases e) ⟨_, e2, RDs.mono kt PX.rfl' _ _ r2, upd_same⟩)
          · cases h
        · cases h
      · cases h
  · cases h
theorem hold_set {i : Expr} (h1 : ∀ lo hi st p, i ≠ .Slice lo hi st p) (h2 : ∀ es k p, i ≠ .Tuple es k p) (o : Expr) (pos : Pos) (env : Env) (v : Value) : assign (.Subscript o i pos) env v = (do
      let ov ← holding [v] (eval o env)
      let iv ← holding [v, ov] (eval i env)
      standAt pos
      holding [v, ov, iv] (setItem ov iv v)
      release [v, ov, iv] []) := by
  cases i <;> first
    | rfl
    | (exact absurd rfl (h1 _ _ _ _))
    | (exact absurd rfl (h2 _ _ _))
theorem s_sub {o i e : Expr} {pos p : Pos} {a k x : Ir} (C : Ctx G xr W X N sc) (hn1 : ∀ lo hi st p, i ≠ .Slice lo hi st p) (hn2 : ∀ es k p, i ≠ .Tuple es k p) (hl : isLCE e = false) (ho : PE X o (E' X xr W (ev G a))) (hi : PE X i (E' X xr W (ev G k))) (he : PE X e (E' X xr W (ev G x))) :
    PS X (.Assign [.Subscript o i p] e pos) (S' X xr W (xs G (.set (.sub a k) x))) := by
  refine psM (ps_asg (pos := pos) he (pg_sub ho hi (set_d C) (hold_set hn1 hn2 o p X.env)) (sw_f hl (some (.Subscript o i p)) pos.line X.env)) fun D σ H => ?_
  rintro ⟨ρ, s, M, sim, sl, h⟩
  simp only [xs] at h
  refine ⟨ρ, s, M, sim, sl, Rs.imp (h.bind sl) fun d M1 ρ1 H1 x1 k1 s1 h1 v r => ?_⟩
  have sl1 := sl.mono k1 x1
  refine ⟨ρ1, s, M1, s1, sl1, Rs.imp (h1.bind sl1) fun ad M2 ρ2 H2 x2 k2 s2 h2 ov ra => ?_⟩
  have sl2 := sl1.mono k2 x2
  refine ⟨ρ2, s, M2, s2, sl2, Rs.imp (h2.bind sl2) fun kd M3 ρ3 H3 x3 k3 s3 h3 iv rk => ?_⟩
  have sl3 := sl2.mono k3 x3
  split at h3
  · rename_i M4 e4
    exact ⟨ρ3, M3, ad, kd, d, s3, RD.mono k3 x3 _ _ ra, rk, RD.mono (k2.trans k3) (x2.trans x3) _ _ r, M4, e4, fun H' kt s4 => FlR.now (FlR.later h3 PX.rfl' kt) s4 (sl3.mono kt PX.rfl')⟩
  · exact h3.elim
/-! ### a += b -/
theorem iop_int {o : Bop} {a b : D} {M : Mem} {e : Exn} {M' : Mem} : iop o a b M ≠ .exc e M' := by
  intro h
  unfold iop at h
  repeat' (first | (cases h; done) | split at h)
def rIp (X : Cx) (o : Bop) : TIp := fun x y H Q => ∃ ρ M d e, RD X.K ρ H d x ∧ RD X.K ρ H e y ∧ ∃ z, iop o d e M = .ok z M ∧ ∀ v, RD X.K ρ H z v → Q v H
theorem ip_d {op : Operator} {o : Bop} (ho : bopOf op = some o) (hb : o = .add ∨ o = .sub) : PIp X op (rIp X o) := by
  intro pins s σ H x y v u Q I rx ry h
  obtain ⟨ρ, M, d, e, rd1, rd2, z, h, q⟩ := h
  unfold iop at h
  split at h
  · have : op = .Add := by cases op <;> first | rfl | (cases ho)
    subst this
    cases h
    cases rd1; cases rd2
    exact ip_add pins s σ H _ _ v u Q I rx ry ⟨_, _, rfl, rfl, q _ (.int _)⟩
  · have : op = .Sub := by cases op <;> first | rfl | (cases ho)
    subst this
    cases h
    cases rd1; cases rd2
    exact ip_sub pins s σ H _ _ v u Q I rx ry ⟨_, _, rfl, rfl, q _ (.int _)⟩
  · cases h
theorem iop_mem {o : Bop} {a b z : D} {M M' : Mem} (h : iop o a b M = .ok z M') : M' = M := by
  unfold iop at h
  repeat' (first | (cases h; rfl) | (cases h; done) | split at h)
theorem s_aug {i : Nat} {nm : Str} {p pos : Pos} {op : Operator} {o : Bop} {e : Expr} {x : Ir} (C : Ctx G xr W X N sc) (hi : stoOf sc N (.Name nm p) = some i) (ho : bopOf op = some o) (hb : o = .add ∨ o = .sub) (he : PE X e (E' X xr W (ev G x))) :
    PS X (.AugAssign (.Name nm p) op e pos) (S' X xr W (xs G (.aug i o x))) := by
  have hs : stob sc nm = true ∧ slotOf N nm = some i := by
    simp only [stoOf] at hi
    split at hi
    · rename_i hs; exact ⟨hs, hi⟩
    · cases hi
  obtain ⟨s1, s2⟩ := C.sto nm hs.1
  refine psM (ps_aug (pos := pos) (pos' := p) (by rw [C.hN]; exact C.nd) (by rw [C.hN]; exact slot_ix hs.2) s1 he (ip_d (X := X) ho hb) s2) fun D σ H => ?_
  rintro ⟨ρ, s, M, sim, sl, h⟩
  simp only [xs] at h
  split at h
  · rename_i d ed
    obtain ⟨v, ev', rv⟩ := sl.get i d ed
    refine ⟨v, ev', ρ, s, M, sim, sl, Rs.imp (h.bind sl) fun y M1 ρ1 H1 x1 k1 s1' h1 w rw' => ?_⟩
    have sl1 := sl.mono k1 x1
    cases e1 : iop o d y M1 with
    | exc _ _ => exact absurd e1 iop_int
    | bad => rw [e1] at h1; exact h1.elim
    | ok z M2 =>
      have := iop_mem e1
      subst this
      rw [e1] at h1
      exact ⟨ρ1, _, d, y, RD.mono k1 x1 _ _ rv, rw', z, e1, fun v' r' => FlR.now h1 s1' (sl1.set r')⟩
  · exact h.elim
theorem atv_get {K : PySem.W.Frag} {ρ : List Addr} {H : Hp} {l : List D} {vs : List V} {k : Int} {z : D} (rs : RDs K ρ H l vs) (e : atD l k = some z) : ∃ w, atI vs k = some w ∧ RD K ρ H z w := by
  unfold atD atI at e
  unfold atI
  rw [← rs.length]
  cases hj : ixN l.length k with
  | none => rw [hj] at e; cases e
  | some j =>
    rw [hj] at e
    exact rs.get e
theorem get_seq (X : Cx) {pins : List (Addr × Obj)} {s : Shared} {σ : L2.St} {H : Hp} {p : Addr} {xs : List V} {k : Int} {z : V} {u : Value} {Q : VK} (I : Inv X pins σ H s) (hq : SqL X.K H p xs) (he : atI xs k = some z) (ry : RelV (.int k) u) (q : Q z H) : wpAny (model X.prog X.w) X.A (getItem (.ref p) u) (EP X pins σ Q) X.xe s := by
  obtain ⟨t, rfl⟩ := ry
  obtain ⟨its, r, pl, hz⟩ := I.list hq
  obtain ⟨j, h1, h2, h3, h4, h5⟩ := atI_get he
  obtain ⟨w, ew, rw'⟩ := r.get h2
  have hl := r.length
  have hn := line63
  have fin : EP X pins σ Q w s := ⟨z, H, I, rw', q⟩
  by_cases h0 : 0 ≤ k
  · have hj : k.toNat = j := by
      rw [seqIndex_of h0 h5] at h1
      exact Option.some.inj h1
    exact wpAny_getItem_list pl.isList h0 (by omega) (by rw [hj]; simpa using ew) fin
  · have hj : (k + (its.toArray.size : Int)).toNat = j := by
      rw [seqIndex_neg (by omega) h4] at h1
      rw [List.size_toArray, ← hl]
      exact Option.some.inj h1
    exact wpAny_getItem_list_neg pl.isList (by omega) (by rw [List.size_toArray] <;> omega) (by omega) (by rw [hj]; simpa using ew) fin
theorem get_tupl (X : Cx) {pins : List (Addr × Obj)} {s : Shared} {σ : L2.St} {H : Hp} {p : Addr} {xs : List V} {k : Int} {z : V} {u : Value} {Q : VK} (I : Inv X pins σ H s) (hq : SqT X.K H p xs) (he : atI xs k = some z) (ry : RelV (.int k) u) (q : Q z H) : wpAny (model X.prog X.w) X.A (getItem (.ref p) u) (EP X pins σ Q) X.xe s := by
  obtain ⟨t, rfl⟩ := ry
  obtain ⟨its, r, pl, hz⟩ := I.tuple hq
  obtain ⟨j, h1, h2, h3, h4, h5⟩ := atI_get he
  obtain ⟨w, ew, rw'⟩ := r.get h2
  have hl := r.length
  have hn := line63
  exact PyProof.Rows.getItem_tuple pl (by omega) (by omega) (by rw [List.size_toArray, ← hl]; exact h1) (by simpa using ew) ⟨z, H, I, rw', q⟩
theorem get_d (C : Ctx G xr W X N sc) : PGet X (rD X.K xr fun a i M => Res.ofO (idxD a i M) M) := by
  intro pins s σ H x y v u Q I rx ry h
  obtain ⟨ρ, M, d, e, sim, rd', re, h⟩ := h
  obtain ⟨z, ez, q⟩ := h.ofO' sim
  cases rd' with
  | tup hq hs' =>
    cases re <;> first | (cases ez; done) | skip
    obtain ⟨w, e1, rw'⟩ := atv_get hs' ez
    cases rx
    exact get_tupl X I hq e1 ry (q w rw')
  | fl hq hs' =>
    cases re <;> first | (cases ez; done) | skip
    obtain ⟨w, e1, rw'⟩ := atv_get hs' ez
    cases rx
    exact get_seq X I hq.sql e1 ry (q w rw')
  | ref ha =>
    rename_i n a
    simp only [idxD] at ez
    cases rx
    split at ez
    · rename_i l el
      split at ez
      · cases re
        obtain ⟨vs, rs, hl⟩ := sim.at el ha
        obtain ⟨w, e1, rw'⟩ := atv_get rs ez
        exact get_seq X I (.of hl) e1 ry (q w rw')
      · cases ez
    · rename_i l el
      split at ez
      · rename_i k ek
        obtain ⟨kvs, e1, rs, hl⟩ := sim.at el ha
        obtain ⟨w, ew, rw'⟩ := kget_V e1 rs ez
        have hk : y = kV k := by
          cases re <;> cases ek <;> rfl
        subst hk
        have g : DGet H a (kV k) (some w) := by rw [← ew]; exact DGet.k hl
        exact d_getItem (by have := C.un; omega) I g ry fun w' s3 I3 rw2 => ⟨w, H, I3, rw2, q w rw'⟩
      · cases ez
    · cases ez
  | _ => cases ez
theorem s_augs {a i e : Expr} {p pos : Pos} {op : Operator} {o : Bop} {x y z : Ir} (C : Ctx G xr W X N sc) (hn1 : isSliceE i = false) (hn2 : isTupE i = false) (ho : bopOf op = some o) (hb : o = .add ∨ o = .sub) (ha : PE X a (E' X xr W (ev G x))) (hi : PE X i (E' X xr W (ev G y))) (he : PE X e (E' X xr W (ev G z))) :
    PS X (.AugAssign (.Subscript a i p) op e pos) (S' X xr W (xs G (.augs x y o z))) := by
  refine psM (ps_augS (pos := pos) (tpos := p) ha hi (get_d C) he (ip_d (X := X) ho hb) (set_d C) (by intros; cases i <;> first | rfl | (cases hn1; done) | (cases hn2; done))) fun D σ H => ?_
  rintro ⟨ρ, s, M, sim, sl, h⟩
  simp only [xs] at h
  refine ⟨ρ, s, M, sim, sl, Rs.imp (h.bind sl) fun ad M1 ρ1 H1 x1 k1 s1 h1 v ra => ?_⟩
  have sl1 := sl.mono k1 x1
  refine ⟨ρ1, s, M1, s1, sl1, Rs.imp (h1.bind sl1) fun kd M2 ρ2 H2 x2 k2 s2 h2 iv rk => ?_⟩
  have sl2 := sl1.mono k2 x2
  refine ⟨ρ2, M2, ad, kd, s2, RD.mono k2 x2 _ _ ra, rk, ?_⟩
  show Rs _ _ _ _ _ _ (Res.ofO (idxD ad kd M2) M2) _
  cases eg : idxD ad kd M2 with
  | none => rw [eg] at h2; exact h2.elim
  | some g =>
    rw [eg] at h2
    change FlR _ _ _ _ _ _ ((ev G z s M2).fl s _) at h2
    intro ρ3 H3 x3 k3 s3 old ro
    have h2 := FlR.later h2 x3 k3
    have sl3 := sl2.mono k3 x3
    refine ⟨ρ3, s, M2, s3, sl3, Rs.imp (h2.bind sl3) fun yd M4 ρ4 H4 x4 k4 s4 h4 w rw' => ?_⟩
    have sl4 := sl3.mono k4 x4
    cases e1 : iop o g yd M4 with
    | exc _ _ => exact absurd e1 iop_int
    | bad => rw [e1] at h4; exact h4.elim
    | ok zd M5 =>
      have := iop_mem e1
      subst this
      rw [e1] at h4
      refine ⟨ρ4, _, g, yd, RD.mono k4 x4 _ _ ro, rw', zd, e1, fun nv rn => ?_⟩
      have x24 := x3.trans x4
      have k24 := k3.trans k4
      simp only [Res.fl_ok] at h4
      split at h4
      · rename_i M6 e6
        exact ⟨ρ4, _, ad, kd, zd, s4, RD.mono (k2.trans k24) (x2.trans x24) _ _ ra, RD.mono k24 x24 _ _ rk, rn, M6, e6, fun H' kt s6 => FlR.now (FlR.later h4 PX.rfl' kt) s6 (sl4.mono kt PX.rfl')⟩
      · exact h4.elim
end
end Mp

set_option Elab.async false
set_option linter.all false
set_option maxRecDepth 100000
set_option maxHeartbeats 4000000
set_option autoImplicit false
namespace Mp
open PySem PySem.Spec L2
section
variable {G : Gl} {xr : XR} {W : WX} {X : Cx} {N : List Str} {sc : Names}
theorem fm_all {α β : Type} {f : α → Option β} : ∀ {l : List α}, (l.filterMap f).length = l.length → ∃ ys, mapO f l = some ys ∧ l.filterMap f = ys
  | [], _ => ⟨[], rfl, rfl⟩
  | a :: l, h => by
    have le := List.length_filterMap_le f l
    cases e : f a with
    | none =>
      rw [List.filterMap_cons_none e, List.length_cons] at h
      omega
    | some y =>
      rw [List.filterMap_cons_some e] at h ⊢
      simp only [List.length_cons, Nat.add_right_cancel_iff] at h
      obtain ⟨ys, e1, e2⟩ := fm_all h
      refine ⟨y :: ys, ?_, by rw [e2]⟩
      unfold mapO
      rw [e, e1]
theorem dd2 {x y : Str} (h : [x, y].eraseDups.length = 2) : x ≠ y := by
  rintro rfl
  simp [List.eraseDups_cons] at h
theorem dd3 {x y z : Str} (h : [x, y, z].eraseDups.length = 3) : x ≠ y ∧ x ≠ z ∧ y ≠ z := by
  refine ⟨?_, ?_, ?_⟩
  · rintro rfl
    cases eb : (z == x) <;> simp [List.eraseDups_cons, List.filter_cons, eb] at h
  · rintro rfl
    cases eb : (y == x) <;> simp [List.eraseDups_cons, List.filter_cons, eb] at h
  · rintro rfl
    cases eb : (y == x) <;> simp [List.eraseDups_cons, List.filter_cons, eb] at h
theorem nm_of {ts : List Expr} {e : Expr} {x : Str} (h : (match e with
  | .Name id pos => if sc.lookup id == some .local && pos.line == (ts.head?.map (·.pos.line)).getD 0 then some id else none
  | _ => none) = some x) : ∃ p, e = .Name x p ∧ sc.lookup x = some .local := by
  split at h
  · split at h
    · rename_i hq
      simp only [Bool.and_eq_true, beq_iff_eq] at hq
      cases h
      exact ⟨_, rfl, hq.1⟩
    · cases h
  · cases h
theorem sw_t {ts : List Expr} {kt : Nat} {pt : Pos} {vs : List Expr} {k2 : Nat} {p2 : Pos} {l : Nat} {env : Env} : swapsWithSole [.Tuple ts kt pt] (.Tuple vs k2 p2) l env = pure false := rfl
theorem mapO_c {α β : Type} {f : α → Option β} {a : α} {l : List α} {r : List β} (h : mapO f (a :: l) = some r) : ∃ b s, f a = some b ∧ mapO f l = some s ∧ r = b :: s := by
  unfold mapO at h
  split at h
  · rename_i b s e1 e2
    cases h
    exact ⟨b, s, e1, e2, rfl⟩
  · cases h
theorem mapO_n {α β : Type} {f : α → Option β} {r : List β} (h : mapO f [] = some r) : r = [] := by cases h; rfl
theorem len2 {α : Type} {l : List α} (h : l.length = 2) : ∃ a b, l = [a, b] := by
  match l, h with
  | [a, b], _ => exact ⟨a, b, rfl⟩
theorem len3 {α : Type} {l : List α} (h : l.length = 3) : ∃ a b c, l = [a, b, c] := by
  match l, h with
  | [a, b, c], _ => exact ⟨a, b, c, rfl⟩
theorem SL.sets {ρ : List Addr} {H : Hp} : ∀ {l : List Nat} {ds : List D} {us : List V} {s : S} {σ : L2.St}, RDs X.K ρ H ds us → SL X.K ρ H s σ → SL X.K ρ H ((l.zip ds).foldl (fun s p => s.set p.1 (some p.2)) s) ((l.zip us).foldl (fun s p => s.set p.1 (some p.2)) σ)
  | [], _, _, _, _, _, sl => sl
  | i :: l, _, _, _, _, .nil, sl => sl
  | i :: l, _, _, _, _, .cons r rs, sl => by
    simp only [List.zip_cons_cons, List.foldl_cons]
    exact SL.sets rs (sl.set r)
theorem sw_core {l : List Nat} {es : Irs} {D : Ends} {σ : L2.St} {H : Hp} {Q : List V → Hp → Prop} (h : S' X xr W (xs G (.set (.t (.t l)) (.tup es))) D σ H)
    (q : ∀ us H1, us.length = l.length → D.nx ((l.zip us).foldl (fun s p => s.set p.1 (some p.2)) σ) H1 → Q us H1) : L' X xr W (evs G es) σ H Q := by
  obtain ⟨ρ, s, M, sim, sl, h⟩ := h
  simp only [xs, ev] at h
  refine ⟨ρ, s, M, sim, sl, Rs.imp (Rs.bind (h.bind sl)) fun ds M1 ρ1 H1 x1 k1 s1 h1 us rs => ?_⟩
  split at h1
  · have h2 := h1 ρ1 H1 PX.rfl' KT.rfl' s1
    simp only [bindT] at h2
    split at h2
    · rename_i s2 e2
      split at e2
      · rename_i hl
        cases e2
        exact q us H1 (by rw [← rs.length, hl]) (h2.now s1 (SL.sets rs (sl.mono k1 x1)))
      · cases e2
    · exact h2.elim
  · exact h1.elim
theorem s_swap {ts vs : List Expr} {kt k2 : Nat} {pt pt2 pos : Pos} {l : List Nat} {r : Expr → Ir} (C : Ctx G xr W X N sc) (hsc : X.env.scope.names = sc) (h : swapB sc ts vs = some true) (hl : mapO (stoOf sc N) ts = some l) (hst : vs.any starred = false) (he : ∀ v ∈ vs, PE X v (E' X xr W (ev G (r v)))) :
    PS X (.Assign [.Tuple ts kt pt] (.Tuple vs k2 pt2) pos) (S' X xr W (xs G (.set (.t (.t l)) (.tup (irs (vs.map r)))))) := by
  have hw := swap_is (X := X) (sc := sc) (kt := kt) (k2 := k2) (pt := pt) (pt2 := pt2) C.kind hsc h
  rw [if_pos rfl] at hw
  have ha := n_args hst he
  unfold swapB at h
  split at h
  · cases h
  rename_i h1
  split at h
  · cases h
  split at h
  · cases h
  rename_i h3
  simp only [Bool.or_eq_true, bne_iff_ne, ne_eq, not_or, Decidable.not_not, Bool.not_eq_true', Bool.or_eq_false_iff, beq_eq_false_iff_ne, not_and] at h1 h3
  obtain ⟨h1, hvl⟩ := h1
  obtain ⟨h3, h4⟩ := h3
  unfold locNames at h3 h4 hw
  obtain ⟨ys, hy, hy2⟩ := fm_all h3
  rw [hy2] at hw h3 h4
  have slot : ∀ {x : Str} {p : Pos} {i : Nat}, stoOf sc N (.Name x p) = some i → N[i]? = some x := by
    intro x p i hi
    simp only [stoOf] at hi
    split at hi
    · exact slot_ix hi
    · cases hi
  have nn : ∀ {x y : Str} {i j : Nat}, N[i]? = some x → N[j]? = some y → x ≠ y → i ≠ j := by
    rintro x y i j a b ne rfl
    rw [a] at b; cases b; exact ne rfl
  clear h hy2
  by_cases e2 : ts.length = 2
  · obtain ⟨a, b, rfl⟩ := len2 e2
    obtain ⟨v1, v2, rfl⟩ := len2 (hvl.trans e2)
    obtain ⟨i, r1, ei, hl1, rfl⟩ := mapO_c hl
    obtain ⟨j, r2, ej, hl2, rfl⟩ := mapO_c hl1
    obtain rfl := mapO_n hl2
    obtain ⟨x, r1, ex, hy1, rfl⟩ := mapO_c hy
    obtain ⟨y, r2, ey, hy2, rfl⟩ := mapO_c hy1
    obtain rfl := mapO_n hy2
    obtain ⟨p1, rfl, l1⟩ := nm_of (ts := [a, b]) ex
    obtain ⟨p2, rfl, l2⟩ := nm_of (ts := [.Name x p1, b]) ey
    have ne := dd2 h4
    refine psM (ps_par C.calm (by rw [C.hN]; exact C.nd) (by rw [C.hN]; exact slot ei) (by rw [C.hN]; exact slot ej) (nn (slot ei) (slot ej) ne) (C.lcl _ l1) (C.lcl _ l2) ha hw sw_t) fun D σ H h => ?_
    refine sw_core h fun us H1 hlen k => ?_
    obtain ⟨u1, u2, rfl⟩ := len2 hlen
    exact ⟨u1, u2, rfl, k⟩
  · have e3 := h1 e2
    obtain ⟨a, b, c, rfl⟩ := len3 e3
    obtain ⟨v1, v2, v3, rfl⟩ := len3 (hvl.trans e3)
    obtain ⟨i, r1, ei, hl3, rfl⟩ := mapO_c hl
    obtain ⟨j, r2, ej, hl4, rfl⟩ := mapO_c hl3
    obtain ⟨m, r3, em, hl5, rfl⟩ := mapO_c hl4
    obtain rfl := mapO_n hl5
    obtain ⟨x, r1, ex, hy3, rfl⟩ := mapO_c hy
    obtain ⟨y, r2, ey, hy4, rfl⟩ := mapO_c hy3
    obtain ⟨z, r3, ez, hy5, rfl⟩ := mapO_c hy4
    obtain rfl := mapO_n hy5
    obtain ⟨p1, rfl, l1⟩ := nm_of (ts := [a, b, c]) ex
    obtain ⟨p2, rfl, l2⟩ := nm_of (ts := [.Name x p1, b, c]) ey
    obtain ⟨p3, rfl, l3⟩ := nm_of (ts := [.Name x p1, .Name y p2, c]) ez
    obtain ⟨n1, n2, n3⟩ := dd3 h4
    refine psM (ps_par3 C.calm (by rw [C.hN]; exact C.nd) (by rw [C.hN]; exact slot ei) (by rw [C.hN]; exact slot ej) (by rw [C.hN]; exact slot em) (nn (slot ei) (slot ej) n1) (nn (slot ei) (slot em) n2) (nn (slot ej) (slot em) n3) (C.lcl _ l1) (C.lcl _ l2) (C.lcl _ l3) ha hw sw_t) fun D σ H h => ?_
    refine sw_core h fun us H1 hlen k => ?_
    obtain ⟨u1, u2, u3, rfl⟩ := len3 hlen
    exact ⟨u1, u2, u3, rfl, k⟩
end
end Mp

set_option Elab.async false
set_option linter.all false
set_option maxRecDepth 100000
set_option maxHeartbeats 4000000
set_option autoImplicit false
namespace Mp
open PySem PySem.Spec L2
section
variable {G : Gl} {xr : XR} {W : WX} {X : Cx} {N : List Str} {sc : Names}
theorem s_setBad {st : Stmt} {t : Lhs} : PS X st (S' X xr W (xs G (.set t .bad))) := ⟨fun pins s σ H D I h => by
  obtain ⟨_, _, _, _, _, h⟩ := h
  cases t <;> simp only [xs, ev, Res.fl_bad] at h <;> exact h.elim⟩
theorem lce_not {e : Expr} (h : isLCE e = false) (t : Option Expr) (l : Nat) (env : Env) : swapsWith e t l env = pure false := sw_f h t l env
theorem sw_tup {e : Expr} {ts : List Expr} {kt : Nat} {pt : Pos} (l : Nat) (env : Env) : swapsWith e (some (.Tuple ts kt pt)) l env = pure false := by
  cases e <;> rfl
theorem swn {e : Expr} {ts : List Expr} {kt : Nat} {pt : Pos} {env : Env} (h : isTupV e = none) : swappedStores [.Tuple ts kt pt] e env = pure none := by
  cases e <;> first | rfl | (cases h; done)
theorem tgt_tup {ts : List Expr} {kt : Nat} {pt : Pos} {l : List Nat} (C : Ctx G xr W X N sc) (h : mapO (stoOf sc N) ts = some l) : PG X (.Tuple ts kt pt) (gT X.K (.t l)) := by
  refine p_tg C (t := .t l) ?_
  simp only [tgOf, h, Option.map_some]
theorem s_cAsg {n : Nat} {tg e : Expr} {pos : Pos} (C : Ctx G xr W X N sc) (hsc : X.env.scope.names = sc) : PS X (.Assign [tg] e pos) (S' X xr W (xs G (cAsg (cE n N sc) sc N tg e))) := by
  obtain ⟨hE, hT, hW⟩ := sE (G := G) (xr := xr) (N := N) n W X sc C
  cases tg with
  | Name x p =>
    simp only [cAsg]
    split
    · rename_i i hi
      have hg : PG X (.Name x p) (gT X.K (.n i)) := p_tg C (t := .n i) (by simp only [tgOf, hi, Option.map_some])
      cases hl : isLCE e with
      | false => exact s_asg (hE e) hg (sw_f hl (some (.Name x p)) pos.line X.env) rfl rfl
      | true =>
        cases e with
        | ListComp el gs scope cp =>
          rcases sw_lc (X := X) (el := el) (gs := gs) (scope := scope) (pos := cp) (py := p) (y := x) (l := pos.line) C with h | ⟨h, hloc⟩
          · exact s_asg (hE _) hg h rfl rfl
          · cases n with
            | zero => exact s_setBad
            | succ n =>
              have hr : ∀ (W : WX) (X : Cx) (sc : Names), Ctx G xr W X N sc → (∀ e, PE X e (E' X xr W (ev G (cE n N sc e)))) ∧ ∀ e, PT X e (T' X xr W (tst G (cE n N sc e))) := fun W X sc C => ⟨(sE n W X sc C).1, (sE n W X sc C).2.1⟩
              have hy : N[i]? = some x := by
                simp only [stoOf] at hi
                split at hi
                · exact slot_ix hi
                · cases hi
              match gs, h with
              | [⟨tg, it, ifs, a⟩], h =>
                by_cases ha : a = 0
                · subst ha
                  have e1 : cE (n + 1) N sc (.ListComp el [⟨tg, it, ifs, 0⟩] scope cp) = cLc N sc (cE n N) el tg it ifs scope := by
                    simp [cE]
                  rw [e1]
                  exact s_setLc C hr hy hloc h
                · have e1 : cE (n + 1) N sc (.ListComp el [⟨tg, it, ifs, a⟩] scope cp) = .bad := by
                    simp [cE, ha]
                  rw [e1]
                  exact s_setBad
              | [], h =>
                have e1 : cE (n + 1) N sc (.ListComp el [] scope cp) = .bad := by
                  simp [cE]
                rw [e1]
                exact s_setBad
              | a :: b :: l, h =>
                have e1 : cE (n + 1) N sc (.ListComp el (a :: b :: l) scope cp) = .bad := by
                  simp [cE]
                rw [e1]
                exact s_setBad
        | SetComp el gs scope cp =>
          cases n with
          | zero => exact s_setBad
          | succ n =>
            have e1 : cE (n + 1) N sc (.SetComp el gs scope cp) = .bad := by simp [cE]
            rw [e1]
            exact s_setBad
        | DictComp k v gs scope cp =>
          cases n with
          | zero => exact s_setBad
          | succ n =>
            have e1 : cE (n + 1) N sc (.DictComp k v gs scope cp) = .bad := by simp [cE]
            rw [e1]
            exact s_setBad
        | _ => cases hl
    · exact s_bad
  | Tuple ts kt pt =>
    simp only [cAsg]
    split
    · rename_i l hl
      have hg := tgt_tup (kt := kt) (pt := pt) C hl
      cases ht : isTupV e with
      | none => exact s_asg (hE e) hg (sw_tup (ts := ts) (kt := kt) (pt := pt) pos.line X.env) (swn ht) rfl
      | some vs =>
        obtain ⟨k2, p2, rfl⟩ : ∃ k2 p2, e = .Tuple vs k2 p2 := by
          cases e <;> first | (cases ht; done) | skip
          cases ht
          exact ⟨_, _, rfl⟩
        dsimp only
        cases hb : swapB sc ts vs with
        | none => exact s_bad
        | some b =>
          cases b with
          | true =>
            dsimp only
            by_cases hst : vs.any starred = false
            · rw [if_pos hst]
              exact s_swap C hsc hb hl hst fun v _ => hE v
            · rw [if_neg hst]
              exact s_bad
          | false => exact s_asg (hE _) hg sw_t (swap_is (kt := kt) (k2 := k2) (pt := pt) (pt2 := p2) C.kind hsc hb) rfl
    · exact s_bad
  | Subscript o i p =>
    simp only [cAsg]
    split
    · exact s_bad
    · rename_i hq
      simp only [Bool.or_eq_true, not_or, Bool.not_eq_true] at hq
      obtain ⟨⟨h1, h2⟩, h3⟩ := hq
      exact s_sub C (by rintro _ _ _ _ rfl; cases h1) (by rintro _ _ _ rfl; cases h2) h3 (hE o) (hE i) (hE e)
  | _ => exact s_bad
theorem s_cAug {n : Nat} {tg e : Expr} {o : Operator} {pos : Pos} (C : Ctx G xr W X N sc) : PS X (.AugAssign tg o e pos) (S' X xr W (xs G (cAug (cE n N sc) sc N tg o e))) := by
  obtain ⟨hE, hT, hW⟩ := sE (G := G) (xr := xr) (N := N) n W X sc C
  cases tg with
  | Name x p =>
    simp only [cAug]
    split
    · rename_i i b hi hb
      split
      · rename_i hq
        exact s_aug C hi hb hq (hE e)
      · exact s_bad
    · exact s_bad
  | Subscript a i p =>
    simp only [cAug]
    split
    · rename_i b hb
      split
      · rename_i hq
        exact s_augs C hq.2.1 hq.2.2 hb hq.1 (hE a) (hE i) (hE e)
      · exact s_bad
    · exact s_bad
  | _ => exact s_bad
/-- every statement -/
theorem sS (C : Ctx G xr W X N sc) (hsc : X.env.scope.names = sc) (hp : PassesOwn (model X.prog X.w) X.A X.env X.xe) : ∀ (n : Nat) (st : Stmt), PS X st (S' X xr W (xs G (cS n N sc st)))
  | 0, st => s_bad
  | n + 1, st => by
    have ih := sS C hsc hp n
    obtain ⟨hE, hT, hW⟩ := sE (G := G) (xr := xr) (N := N) n W X sc C
    have blk : ∀ l : List Stmt, PSs X l (S' X xr W (xss G (sms (l.map (cS n N sc))))) := by
      intro l
      induction l with
      | nil => exact ss_nil
      | cons a l ihl => exact ss_cons (ih a) ihl
    cases st with
    | Pass _ => exact s_pas
    | Break _ => exact s_brk
    | Continue _ => exact s_cnt
    | Return e _ =>
      cases e with
      | none => exact s_retN
      | some e => exact s_ret (hE e)
    | Expr e _ =>
      simp only [cS]
      split
      · exact s_bad
      · rename_i hq
        exact s_ex (by simpa using hq) (hE e)
    | Assign ts e _ =>
      match ts with
      | [tg] => exact s_cAsg C hsc
      | [] => exact s_bad
      | a :: b :: l => exact s_bad
    | AugAssign tg o e _ => exact s_cAug C
    | If c a b _ => exact s_if (hT c) (blk a) (blk b)
    | While c b e _ =>
      simp only [cS]
      split
      · rename_i hq
        have : e = [] := by simpa using hq
        subst this
        exact s_whl hp (hT c) (blk b)
      · exact s_bad
    | For tg it b e _ =>
      simp only [cS]
      split
      · rename_i hq
        simp only [Bool.and_eq_true, Bool.not_eq_true'] at hq
        obtain ⟨h1, h2⟩ := hq
        have : e = [] := by simpa using h1
        subst this
        split
        · rename_i t ht
          exact s_for C hp (h_iter hE C) (p_tg C ht) (blk b) (fsi h2 X.env)
        · exact s_bad
      · exact s_bad
    | _ => exact s_bad
theorem sSs (C : Ctx G xr W X N sc) (hsc : X.env.scope.names = sc) (hp : PassesOwn (model X.prog X.w) X.A X.env X.xe) (n : Nat) : ∀ l : List Stmt, PSs X l (S' X xr W (xss G (sms (l.map (cS n N sc)))))
  | [] => ss_nil
  | a :: l => ss_cons (sS C hsc hp n a) (sSs C hsc hp n l)
end
end Mp

set_option Elab.async false
set_option linter.all false
set_option maxRecDepth 100000
set_option maxHeartbeats 4000000
set_option autoImplicit false
namespace Mp
open PySem PySem.Spec L2
/-! ### how a def's arguments bind -/
structure Plain (fd : FuncData) (ps : List Str) : Prop where
  pos : fd.params.posonlyargs = []
  args : fd.params.args.map (·.arg) = ps
  kwo : fd.params.kwonlyargs = []
  va : fd.params.vararg = none
  kwa : fd.params.kwarg = none
  df : fd.defaults = .none
theorem forIn_run {α β : Type} {f : α → β → Sem (ForInStep β)} (g : β → α → β) : ∀ (l : List α) (s : β), (∀ l1 x l2, l = l1 ++ x :: l2 → f x (l1.foldl g s) = pure (.yield (g (l1.foldl g s) x))) → forIn l s f = pure (l.foldl g s)
  | [], s, _ => rfl
  | a :: l, s, h => by
    have h0 : f a s = pure (.yield (g s a)) := h [] a l rfl
    rw [List.forIn_cons, h0]
    rw [pure_bind]
    exact forIn_run g l (g s a) fun l1 x l2 e => h (a :: l1) x l2 (by rw [e]; rfl)
theorem fold_slots {α : Type} {β : Type} : ∀ (l : List α) (s : List α) (e : β), l.foldl (fun (p : List α × β) x => (p.1 ++ [x], p.2)) (s, e) = (s ++ l, e)
  | [], s, e => by simp
  | a :: l, s, e => by
    rw [List.foldl_cons, fold_slots l]
    simp
theorem zip_look {β : Type} : ∀ {ps : List Str} {us : List β} {i : Nat} {n : Str} {u : β}, ps.Nodup → ps[i]? = some n → us[i]? = some u → (ps.zip us).lookup n = some u
  | [], _, _, _, _, _, h, _ => by simp at h
  | _ :: _, [], _, _, _, _, _, h => by simp at h
  | p :: ps, v :: us, 0, n, u, _, h1, h2 => by
    simp at h1 h2; subst h1; subst h2
    simp [List.lookup]
  | p :: ps, v :: us, i + 1, n, u, nd, h1, h2 => by
    have hn : n ≠ p := by
      rintro rfl
      exact (List.nodup_cons.mp nd).1 (List.mem_of_getElem? (by simpa using h1))
    have : (n == p) = false := by simpa using hn
    rw [List.zip_cons_cons, List.lookup_cons, this]
    exact zip_look (List.nodup_cons.mp nd).2 (by simpa using h1) (by simpa using h2)
theorem zip_none {β : Type} : ∀ {ps : List Str} {us : List β} {n : Str}, n ∉ ps.take us.length → (ps.zip us).lookup n = none
  | [], _, _, _ => by simp
  | _ :: _, [], _, _ => by simp
  | p :: ps, v :: us, n, h => by
    simp only [List.length_cons, List.take_succ_cons, List.mem_cons, not_or] at h
    have : (n == p) = false := by simpa using h.1
    rw [List.zip_cons_cons, List.lookup_cons, this]
    exact zip_none h.2
theorem nodup_take_drop {ps : List Str} {k : Nat} {x : Str} (nd : ps.Nodup) (h : x ∈ ps.drop k) : x ∉ ps.take k := by
  intro h2
  rw [← List.take_append_drop k ps, List.nodup_append] at nd
  exact nd.2.2 x h2 x h rfl
theorem fm_zip {β : Type} {g : Str → Option (Str × β)} : ∀ {ps : List Str} {zs : List β}, zs.length = ps.length → (∀ (i : Nat) (n : Str) (z : β), ps[i]? = some n → zs[i]? = some z → g n = some (n, z)) → ps.filterMap g = ps.zip zs
  | [], [], _, _ => rfl
  | [], _ :: _, h, _ => by simp at h
  | _ :: _, [], h, _ => by simp at h
  | p :: ps, z :: zs, h, hg => by
    rw [List.filterMap_cons_some (hg 0 p z rfl rfl), List.zip_cons_cons, fm_zip (by simpa using h) fun i n z a b => hg (i + 1) n z (by simpa using a) (by simpa using b)]
theorem mapO_at {α β : Type} {f : α → Option β} : ∀ {l : List α} {r : List β} {i : Nat} {a : α}, mapO f l = some r → l[i]? = some a → ∃ b, r[i]? = some b ∧ f a = some b
  | [], _, _, _, _, h => by simp at h
  | x :: l, r, i, a, h, e => by
    obtain ⟨b, s, e1, e2, rfl⟩ := mapO_c h
    cases i with
    | zero => simp at e; subst e; exact ⟨b, rfl, e1⟩
    | succ i =>
      obtain ⟨c, h1, h2⟩ := mapO_at e2 (by simpa using e)
      exact ⟨c, by simpa using h1, h2⟩
theorem bind_kw {fd : FuncData} {ps : List Str} (P : Plain fd ps) (nd : ps.Nodup) {us vs : List Value} {kw : List (Str × Value)} (hl : us.length + kw.length = ps.length) (hn : (kw.map (·.1)).Nodup) (hs : ∀ x ∈ kw.map (·.1), x ∈ ps.drop us.length)
    (hv : mapO (fun p => kw.lookup p) (ps.drop us.length) = some vs) : bindArgs fd ⟨us, kw⟩ = pure (ps.zip (us ++ vs)) := by
  have vl := mapO_len hv
  have look : ∀ (i : Nat) (n : Str) (z : Value), ps[i]? = some n → (us ++ vs)[i]? = some z → (ps.zip us ++ kw).lookup n = some z := by
    intro i n z h1 h2
    by_cases hi : i < us.length
    · rw [List.getElem?_append_left hi] at h2
      rw [List.lookup_append, zip_look nd h1 h2]; rfl
    · rw [List.getElem?_append_right (by omega)] at h2
      have hd : (ps.drop us.length)[i - us.length]? = some n := by
        rw [List.getElem?_drop, show us.length + (i - us.length) = i by omega]; exact h1
      obtain ⟨b, e1, e2⟩ := mapO_at hv hd
      rw [h2] at e1; cases e1
      rw [List.lookup_append, zip_none (nodup_take_drop nd (List.mem_of_getElem? hd)), Option.none_or]
      exact e2
  have zl : (us ++ vs).length = ps.length := by
    rw [List.length_append, vl, List.length_drop]; omega
  have some' : ∀ n ∈ ps, ((ps.zip us ++ kw).lookup n).isSome = true := by
    intro n hn
    obtain ⟨i, hi, e⟩ := List.mem_iff_getElem.mp hn
    obtain ⟨z, ez⟩ : ∃ z, (us ++ vs)[i]? = some z := ⟨_, List.getElem?_eq_getElem (by rw [zl]; exact hi)⟩
    rw [look i n z (by rw [List.getElem?_eq_getElem hi, e]) ez]
    rfl
  unfold bindArgs
  simp only [P.pos, P.args, P.kwo, P.va, P.kwa, P.df, List.map_nil, List.nil_append, List.append_nil]
  rw [forIn_run (fun p x => (p.1 ++ [x], p.2)) kw]
  · rw [fold_slots, pure_bind]
    have e0 : seqItems? Value.none = pure none := rfl
    rw [e0, pure_bind]
    have e1 : (decide (us.length > ps.length) && Option.isNone (none : Option Arg)) = false := by
      rw [decide_eq_false (by omega)]; rfl
    have e2 : (ps.filter fun n => ((ps.zip us ++ kw).lookup n).isNone) = [] := by
      rw [List.filter_eq_nil_iff]
      intro n hn
      have := some' n hn
      cases q : (ps.zip us ++ kw).lookup n with
      | none => rw [q] at this; cases this
      | some _ => simp
    have e3 : (ps.filterMap fun n => ((ps.zip us ++ kw).lookup n).map fun x => (n, x)) = ps.zip (us ++ vs) := fm_zip zl fun i n z h1 h2 => by rw [look i n z h1 h2]; rfl
    simp only [e1, Option.getD_none, List.drop_nil, List.length_nil, Nat.sub_zero, List.take_length, e2, e3, List.isEmpty_nil, Bool.not_true, Bool.false_eq_true, if_false, List.drop_length, List.zip_nil_right, List.forIn_nil, pure_bind, Nat.zero_sub, List.drop_zero]
  · intro l1 x l2 e
    rw [fold_slots]
    have hx : x.1 ∈ ps.drop us.length := hs _ (by rw [e]; simp)
    have h1 : ps.contains x.1 = true := by
      simpa using List.mem_of_mem_drop hx
    have h2 : (List.lookup x.1 (ps.zip us ++ l1)).isSome = false := by
      rw [List.lookup_append, zip_none (nodup_take_drop nd hx), Option.none_or]
      rw [e, List.map_append, List.nodup_append] at hn
      cases q : l1.lookup x.1 with
      | none => rfl
      | some v => exact absurd rfl (hn.2.2 x.1 (List.mem_map.mpr ⟨_, PySem.mem_of_lookup q, rfl⟩) x.1 (by simp))
    simp only [h1, h2, Bool.true_or, if_true, Bool.false_eq_true, if_false]
end Mp

set_option Elab.async false
set_option linter.all false
set_option maxRecDepth 100000
set_option maxHeartbeats 4000000
set_option autoImplicit false
namespace Mp
open PySem PySem.Spec PyProof.Rows L2
/-! ### a def keeps what its body comes to -/
section
variable {K : PySem.W.Frag} {ρ : List Addr} {H : Hp}
theorem look_rel {p : Str} {e : D} : ∀ {ks : List Str} {es : List D} {zs : List V} {ws : List Value}, RDs K ρ H es zs → Vals zs ws → (ks.zip es).lookup p = some e → ∃ z w, (ks.zip ws).lookup p = some w ∧ RD K ρ H e z ∧ RelV z w
  | [], _, _, _, _, _, h => by simp at h
  | _ :: _, [], _, _, _, _, h => by simp at h
  | k :: ks, e' :: es, _, _, .cons r rs, .cons v vs, h => by
    rw [List.zip_cons_cons, List.lookup_cons] at h
    rw [List.zip_cons_cons, List.lookup_cons]
    cases hq : p == k with
    | true => rw [hq] at h; cases h; exact ⟨_, _, rfl, r, v⟩
    | false => rw [hq] at h; exact look_rel rs vs h
theorem looks_rel {ks : List Str} {es : List D} {zs : List V} {ws : List Value} (rs : RDs K ρ H es zs) (vz : Vals zs ws) : ∀ {l : List Str} {ds : List D}, mapO (fun p => (ks.zip es).lookup p) l = some ds → ∃ vs us, mapO (fun p => (ks.zip ws).lookup p) l = some us ∧ RDs K ρ H ds vs ∧ Vals vs us
  | [], _, h => by cases h; exact ⟨[], [], rfl, .nil, .nil⟩
  | p :: l, _, h => by
    obtain ⟨d, ds, e1, e2, rfl⟩ := mapO_c h
    obtain ⟨z, w, h1, h2, h3⟩ := look_rel rs vz e1
    obtain ⟨vs, us, h4, h5, h6⟩ := looks_rel rs vz e2
    refine ⟨z :: vs, w :: us, ?_, .cons h2 h5, .cons h3 h6⟩
    unfold mapO
    rw [h1, h4]
theorem zip_keys {α β : Type} {ks : List Str} {es : List α} {ws : List β} (h : es.length = ws.length) : (ks.zip es).map (·.1) = (ks.zip ws).map (·.1) := by
  induction ks generalizing es ws with
  | nil => rfl
  | cons k ks ih =>
    cases es with
    | nil =>
      cases ws with
      | nil => rfl
      | cons _ _ => cases h
    | cons e es =>
      cases ws with
      | nil => cases h
      | cons w ws =>
        simp only [List.zip_cons_cons, List.map_cons, ih (Nat.succ.inj h)]
theorem sl_start {N : List Str} {ds : List D} {vs : List V} (rs : RDs K ρ H ds vs) : SL K ρ H (startS N.length ds) (L2.start N vs) := by
  have hl := rs.length
  refine ⟨by unfold startS L2.start; simp [hl], fun i d h => ?_⟩
  unfold startS at h
  unfold L2.start
  by_cases hi : i < ds.length
  · rw [List.getElem?_append_left (by simpa using hi), List.getElem?_map] at h
    cases e : ds[i]? with
    | none => rw [e] at h; cases h
    | some x =>
      rw [e] at h
      cases h
      obtain ⟨v, e2, r⟩ := rs.get e
      refine ⟨v, ?_, r⟩
      rw [List.getElem?_append_left (by simp; omega), List.getElem?_map, e2]
      rfl
  · rw [List.getElem?_append_right (by simpa using hi), List.getElem?_replicate] at h
    split at h <;> cases h
end
/-- the module: what its names are -/
structure Md (K : PySem.W.Frag) (mg : Str → Option Value) (glob : Str → Option D) (fns : Str → Option Fn) : Prop where
  blt : ∀ f ∈ bltNames, mg f = none
  glob : ∀ x d, glob x = some d → ∃ u v, mg x = some u ∧ RelV v u ∧ ∀ ρ H, RD K ρ H d v
  fn : ∀ f F, fns f = some F → ∃ (a : Addr) (nm qual : Str) (st : Stmt) (fd : FuncData) (N ps : List Str) (n : Nat), mg f = some (.ref a) ∧ Fun K nm qual st a fd ∧ FnScope N ps (defScope st) ∧ Plain fd ps ∧ F = ⟨ps, N.length, sms ((defBody st).map (cS n N (defScope st).names))⟩
section
variable {xr : XR} {P : Program} {w : World} {K : PySem.W.Frag} {mg : Str → Option Value} {base : Heap} {glob : Str → Option D} {L : Nat} {fns : Str → Option Fn}
theorem ctx_of {G : Gl} {k : Nat} {N ps : List Str} {qual : Str} {scope : Scope} {a : Addr} {cdv : Value} {A : Around} {outer : List Env} {s : Shared} {H : Hp} {E : XK} (M : Md K mg glob fns) (S : FnScope N ps scope) (hG : G.glob = glob) (hgd : A.guards = some []) (hr : Room k (A.deeper (envOfC qual scope s.heap.objs.size a cdv)))
    (hf : ∀ f, G.known f = true → ∃ a, mg f = some (.ref a) ∧ PySem.W.keepIn K (.ref a) = true ∧ GFn xr P w K mg base k a (G.call f)) :
    Ctx G xr (fun c d _ H => E c d H) (cxOf (L2.CX P w) P w K mg base N qual scope a cdv A outer s H E) N scope.names where
  hN := rfl
  nd := S.nd
  calm := rfl
  kind := S.kind
  vis := fun x h => by
    unfold vis at h
    split at h
    · rename_i e; exact .inl e
    · rename_i e; exact .inr (.inl e)
    · rename_i e; exact .inr (.inr e)
    · cases h
  gl := fun x h => by
    unfold glo at h
    simp only [beq_iff_eq] at h
    exact h
  sto := fun x h => by
    unfold stob at h
    split at h
    · rename_i e; exact ⟨.inl e, .inl rfl⟩
    · rename_i e; exact ⟨.inr e, .inl rfl⟩
    · cases h
  cap := fun x h => h
  lcl := fun x h => h
  un := by have := hr.un; show (A.deeper (envOfC qual scope s.heap.objs.size a cdv)).units + 100 < _; omega
  gd := hgd
  blt := M.blt
  glob := fun x d h => M.glob x d (by rw [← hG]; exact h)
  tk := takes_of rfl rfl rfl rfl
  fns := ⟨k, hr, hf⟩
theorem g_fn {G : Gl} {k n : Nat} {N ps : List Str} {nm qual : Str} {st : Stmt} {a : Addr} {fd : FuncData} (M : Md K mg glob fns) (F : Fun K nm qual st a fd) (S : FnScope N ps (defScope st)) (Pl : Plain fd ps) (hG : G.glob = glob)
    (hf : ∀ f, G.known f = true → ∃ a, mg f = some (.ref a) ∧ PySem.W.keepIn K (.ref a) = true ∧ GFn xr P w K mg base k a (G.call f)) :
    GFn xr P w K mg base (k + 1) a (fun ds kw M => match bindArg ps ds kw with
      | none => .bad
      | some vs => ran (xss G (sms ((defBody st).map (cS n N (defScope st).names))) (startS N.length vs) M)) := by
  obtain ⟨oc, od, kV, doc, pm, an, cdv, ct, osl, rfl, lk, hcd⟩ := F.ex
  refine ⟨fun A outer s H us ws ks vs zs ρ M' ds es Q E hgd hr e0 rv rz hle sim rs re h => ?_⟩
  split at h
  · exact h.elim
  rename_i dvs hb
  unfold bindArg at hb
  split at hb
  case isFalse => cases hb
  rename_i hc
  obtain ⟨c1, c2, c3⟩ := hc
  obtain ⟨kds, e1, rfl⟩ := Option.map_eq_some_iff.mp hb
  have wl : ws.length = es.length := by rw [← rz.length, re.length]
  have ul : us.length = ds.length := by rw [← rv.length, rs.length]
  obtain ⟨kvs, kus, e2, rk, vk⟩ := looks_rel re rz e1
  have keys : (ks.zip es).map (·.1) = (ks.zip ws).map (·.1) := zip_keys wl.symm
  have zl : (ks.zip es).length = (ks.zip ws).length := by simp [wl]
  rw [zl] at c1
  rw [keys] at c2 c3
  rw [← ul] at c1 c3 e2
  have hpre := S.pre
  have ndP : ps.Nodup := by rw [← S.pre]; exact S.nd.sublist (List.take_sublist _ _)
  have hbind := bind_kw Pl ndP c1 c2 c3 e2
  have r2 : Vals (vs ++ kvs) (us ++ kus) := rv.append vk
  have rd2 : RDs K ρ H (ds ++ kds) (vs ++ kvs) := rs.append rk
  have ml := mapO_len e1
  have hl : (vs ++ kvs).length = ps.length := by
    rw [← rd2.length, List.length_append, ml, List.length_drop]
    have : ds.length ≤ ps.length := by rw [← ul]; omega
    omega
  have KX : K.In s.heap := e0.mod.kin.keeps fun b o e => (e0.bs b o e).1
  have lim : s.heap.NoLimit := e0.mod.nolimit.keeps fun b o e => (e0.bs b o e).1
  have hkind : ∀ y ∈ ps.zip (us ++ kus), (defScope st).names.lookup y.1 = some .local ∨ ((defScope st).names.lookup y.1 = some .cell ∧ ((cellsFrom (s.heap.objs.size + 1) (defScope st).names []).lookup y.1).isSome = true) := fun ⟨n, v⟩ hy => by
    rcases S.par n (List.of_mem_zip hy).1 with q | q
    · exact .inl q
    · exact .inr ⟨q, PySem.W.cellsFrom_some _ _ _ (.inl q)⟩
  refine codeAny_call_function hr.depth (KX _ _ lk) rfl S.co S.gen rfl (PySem.W.codeRec_of KX hcd) (BindsTo.of_eq hbind _ _ _ _ ?_)
  refine wpAny_newFunctionEnv_cells S.kind hkind fun env he s1 x => ?_
  subst he
  refine ⟨lim.keeps x.toInCall.keep, codeAny_func ?_⟩
  have hrd := hr.deeper (envOfC qual (defScope st) s.heap.objs.size a cdv)
  have C := ctx_of (base := base) (outer := outer) (H := H) (E := E) M S hG hgd hrd hf
  have ht := sSs C rfl (passes_of rfl) n (defBody st)
  have I : Inv (cxOf (L2.CX P w) P w K mg base N qual (defScope st) a cdv A outer s H E) [] (L2.start N (vs ++ kvs)) H s1 := inv_start S hr.hd e0 hl r2 x
  have hq : S' (cxOf (L2.CX P w) P w K mg base N qual (defScope st) a cdv A outer s H E) xr (fun c d _ H => E c d H) (xss G (sms ((defBody st).map (cS n N (defScope st).names)))) { nx := fun _ H' => Q .non H', rt := Q } (L2.start N (vs ++ kvs)) H := by
    refine ⟨ρ, startS N.length (ds ++ kds), M', sim, sl_start rd2, ?_⟩
    cases ef : xss G (sms ((defBody st).map (cS n N (defScope st).names))) (startS N.length (ds ++ kds)) M' with
    | nx s2 M2 => rw [ef] at h; exact fun ρ' H' σ' px kt sm _ => h ρ' H' px kt sm _ .non
    | rt d M2 => rw [ef] at h; exact fun ρ' H' v px kt sm r => h ρ' H' px kt sm v r
    | bk s2 M2 => rw [ef] at h; exact h.elim
    | ct s2 M2 => rw [ef] at h; exact h.elim
    | exc e s2 M2 => rw [ef] at h; exact fun ρ' H' σ' c dd px kt sm _ q => h ρ' H' c dd px kt sm q
    | bad => rw [ef] at h; exact h.elim
  refine wpAny_mono (ht.run [] s1 _ H _ I hq) (fun fl s' hs => ?_) fun e s' hs => hs
  have fin : ∀ {σ' : L2.St} {H' : Hp} {v : V} {u : Value}, Inv (cxOf (L2.CX P w) P w K mg base N qual (defScope st) a cdv A outer s H E) [] σ' H' s' → RelV v u → Q v H' → CE outer P w H s Q u s' :=
    fun {σ' H' v u} J rv q => ⟨v, H', J.os, J.bare, J.base, J.hok, rv, q⟩
  cases fl with
  | ret u =>
    obtain ⟨v, σ', H', J, rv, q⟩ := hs
    exact fin J rv q
  | next =>
    obtain ⟨σ', H', J, q⟩ := hs
    exact fin (v := V.non) (u := Value.none) J rfl q
  | brk =>
    obtain ⟨_, _, _, q⟩ := hs
    exact q.elim
  | cont =>
    obtain ⟨_, _, _, q⟩ := hs
    exact q.elim
/-- every def of the module, to every depth -/
theorem md_fn (M : Md K mg glob fns) : ∀ (k : Nat) (f : Str) (F : Fn), fns f = some F → ∃ a, mg f = some (.ref a) ∧ PySem.W.keepIn K (.ref a) = true ∧ GFn xr P w K mg base k a (callF glob L fns k f)
  | 0, f, F, h => by
    obtain ⟨a, nm, qual, st, fd, N, ps, n, e1, hF, S, Pl, rfl⟩ := M.fn f F h
    refine ⟨a, e1, hF.kp, ⟨fun A outer s H us ws ks vs zs ρ M' ds es Q E hgd hr e0 rv rz hle sim rs re h => ?_⟩⟩
    exact h.elim
  | k + 1, f, F, h => by
    have ih := md_fn M k
    obtain ⟨a, nm, qual, st, fd, N, ps, n, e1, hF, S, Pl, rfl⟩ := M.fn f F h
    refine ⟨a, e1, hF.kp, ?_⟩
    have g := g_fn (xr := xr) (P := P) (w := w) (base := base) (n := n) (G := ⟨fun g => (fns g).isSome, glob, callF glob L fns k, L⟩) (k := k) M hF S Pl rfl fun f' hk => by
      obtain ⟨F', hF'⟩ := Option.isSome_iff_exists.mp hk
      exact ih f' F' hF'
    have e : callF glob L fns (k + 1) f = fun ds kw M => match bindArg ps ds kw with
        | none => .bad
        | some vs => ran (xss ⟨fun g => (fns g).isSome, glob, callF glob L fns k, L⟩ (sms ((defBody st).map (cS n N (defScope st).names))) (startS N.length vs) M) := by
      funext ds kw M
      simp only [callF, h] <;> (cases bindArg ps ds kw <;> rfl)
    rw [e]
    exact g
end
end Mp

set_option Elab.async false
set_option linter.all false
set_option maxRecDepth 100000
set_option maxHeartbeats 4000000
set_option autoImplicit false
namespace Mp
open PySem PySem.Spec PyProof.Rows L2
/-! ### a law's end -/
theorem ints_rds {K : PySem.W.Frag} {ρ : List Addr} {H : Hp} : ∀ ns : List Int, RDs K ρ H (ns.map D.int) (ns.map V.int)
  | [] => .nil
  | n :: ns => .cons (.int n) (ints_rds ns)
theorem sim0 {K : PySem.W.Frag} {H : Hp} : Sim K [] [] H := ⟨rfl, List.nodup_nil, fun n o h => by simp at h⟩
/-- the script as the layer sees it: its own heap holds at most the script -/
structure Laid (K : PySem.W.Frag) (h : Heap) (a : Addr) (ns : List Int) (H : Hp) : Prop where
  fl : FL K H a (ns.map V.int)
  ok : ∀ (P : Program) (w : World), HOk P w H h
  one : ∀ b, H b ≠ none → b = a
  txt : H a ≠ none → K.lookup a = none
  frz : ∀ b u, H b = some u → ∃ o xs, u = .frz o (.lst xs)
theorem laid {K : PySem.W.Frag} {h : Heap} {a : Addr} {vs : List Value} {ns : List Int} (KX : K.In h) (ha : h.get? a = some { cls := .type "list", data := .seq vs.toArray }) (hi : IntsAre vs ns) (hl : ns.length ≤ sizeLine) : ∃ H, Laid K h a ns H := by
  have rv := vals_ints hi
  have lv := hi.length
  cases hk : K.lookup a with
  | some o =>
    have e := (KX a o hk).symm.trans ha
    cases e
    exact ⟨fun _ => none, .inr ⟨vs, _, hk, by rw [lv]; exact hl, rv⟩, fun _ _ b u z => (by cases z), fun b z => absurd rfl z, fun z => absurd rfl z, fun b u z => (by cases z)⟩
  | none =>
    have at' : ∀ {b : Addr} {u : HO}, (if b = a then some (HO.frz { cls := .type "list", data := .seq vs.toArray } (.lst (ns.map V.int))) else none) = some u → b = a ∧ u = .frz { cls := .type "list", data := .seq vs.toArray } (.lst (ns.map V.int)) := by
      intro b u z
      split at z
      · rename_i e; cases z; exact ⟨e, rfl⟩
      · cases z
    refine ⟨fun b => if b = a then some (.frz { cls := .type "list", data := .seq vs.toArray } (.lst (ns.map V.int))) else none, .inl ⟨_, if_pos rfl⟩, fun _ _ b u z => ?_, fun b z => ?_, fun _ => hk, fun b u z => ⟨_, _, (at' z).2⟩⟩
    · obtain ⟨rfl, rfl⟩ := at' z
      exact ⟨ha, by rw [List.length_map]; exact hl, vs, _, rv, ha⟩
    · obtain ⟨u, hu⟩ := Option.ne_none_iff_exists'.mp z
      exact (at' hu).1
section
variable {xr : XR} {P : Program} {w : World} {K : PySem.W.Frag} {mg mb : Str → Option Value} {k : Nat} {fa a : Addr} {s : Shared} {vs : List Value} {ns : List Int} {den : List D → List (Str × D) → Mem → Res D} {M1 : Mem}
theorem law_go (KX : K.In s.heap) (hns : s.heap.Ns mainGlobals mg) (hb : s.heap.Ns builtinsNs mb) (hbb : ∀ x : Str, x ≠ "__name__" → mb x = bootBuiltins x) (hlim : s.heap.NoLimit) (hg : s.gens = #[])
    (ha : s.heap.get? a = some { cls := .type "list", data := .seq vs.toArray }) (hi : IntsAre vs ns) (hl : ns.length ≤ sizeLine) (hr : Room k callerA)
    (F : ∀ base : Heap, K.In base → base.Ns mainGlobals mg → GFn xr P w K mg base k fa den) (hden : den [.fl (ns.map .int)] [] [] = .ok (.bl true) M1) :
    codeAny (model P w) callerA (.call (.ref fa) ⟨[.ref a], []⟩) (fun r s' => r = .ok (.ret (.bool true)) ∧ OldK s.heap s'.heap ∧ s'.os = s.os ∧ AllBare s'.gens) s := by
  obtain ⟨H, Y⟩ := laid KX ha hi hl
  have cut : ∀ {b : Addr}, H b ≠ none → b = a ∧ K.lookup a = none := fun {b} z => by
    obtain rfl := Y.one b z
    exact ⟨rfl, Y.txt z⟩
  have dict0 : ∀ {b : Addr} {o : Obj} {es : Array DictEntry} {ep : Nat}, s.heap.get? b = some o → o.data = .dict es ep → (hidT s.heap H).get? b = some o := fun {b o es ep} e d => by
    refine hidT_get e (Classical.byContradiction fun z => ?_)
    obtain ⟨rfl, _⟩ := cut z
    cases ha.symm.trans e
    cases d
  have ns0 : ∀ {b : Addr} {m : Str → Option Value}, s.heap.Ns b m → (hidT s.heap H).Ns b m := fun {b m} ⟨o, es, ep, e, d, r⟩ => ⟨o, es, ep, dict0 e d, d, r⟩
  have K0 : K.In (hidT s.heap H) := fun b o e => by
    refine hidT_get (KX b o e) (Classical.byContradiction fun z => ?_)
    obtain ⟨rfl, q⟩ := cut z
    cases q.symm.trans e
  have m0 : Mod K mg (hidT s.heap H) := ⟨K0, ns0 hns, ⟨mb, ns0 hb, hbb⟩, hlim.elim fun mc h => ⟨mc, ns0 h.1, h.2⟩⟩
  have e0 : Env0 P w K mg (hidT s.heap H) callerA [] s H := ⟨rfl, m0, fun b o e => of_hidT e, Nat.le_of_eq (hidT_size _ _), trivial, fun b z => (by cases z), Y.ok P w, .of_eq hg⟩
  have run := (F _ K0 (ns0 hns)).run callerA [] s H [.ref a] [] [] [.ref a] [] [] [] [.fl (ns.map .int)] [] (fun v _ => v = .bl true) (fun _ _ _ => False) rfl hr e0 (.cons rfl .nil) .nil rfl sim0 (.cons (.fl Y.fl (ints_rds ns)) .nil) .nil (by
    show Rs _ _ _ _ _ _ (den [.fl (ns.map .int)] [] []) _
    rw [hden]
    intro ρ' H' _ _ _ v r
    cases r
    rfl)
  refine codeAny_mono run fun r s' q => ?_
  cases r with
  | error e =>
    obtain ⟨_, _, _, _, _, _, _, _, _, _, _, _, z⟩ := q
    exact z.elim
  | ok fl =>
    cases fl with
    | ret u =>
      obtain ⟨v, H', os, bare, un, hok, rl, rfl⟩ := q
      obtain rfl : u = Value.bool true := rl
      refine ⟨rfl, OldK.of_keep fun b o e => ?_, os, bare⟩
      cases z : H b with
      | none => exact un.keep b o e z (fun t => by cases t) (by simp)
      | some u =>
        obtain ⟨ob, xs, rfl⟩ := Y.frz b u z
        obtain ⟨e1, _⟩ := Y.ok P w b _ z
        obtain ⟨e2, _⟩ := hok b _ (un.frzs b ob _ z)
        cases e1.symm.trans e
        exact e2
    | _ => exact False.elim q
end
theorem walk_go {xr : World → XR} {l : PySem.W.OpenLaw} {n k : Nat} {q : Program} {loose : List Str} {XP : (Str → Option Value) → Heap → Prop} {YP : World → Heap → Prop} {d : DefRec} {K : Params → PySem.W.Frag} {den : World → List D → List (Str × D) → Mem → Res D}
    (hn : l.most = some n) (hn2 : n ≤ sizeLine) (hdf : d.params.defaults = []) (hr : Room k callerA) (hY : ∀ (w : World) (h : Heap), YP w h → (K w.params).In h)
    (hden : ∀ w (ns : List Int), ns.length ≤ n → ∃ M1, den w [.fl (ns.map .int)] [] [] = .ok (.bl true) M1)
    (F : ∀ (w : World) (mg : Str → Option Value) (fa : Addr) (h : Heap), (K w.params).In h → h.Ns mainGlobals mg → mg d.name = some (.ref fa) → XP mg h → ∀ base : Heap, (K w.params).In base → base.Ns mainGlobals mg → GFn (xr w) l.prog w (K w.params) mg base k fa (den w)) :
    PySem.W.WalkO q loose XP YP l.row.toRowW d [] (fun f vs => PySem.call f vs) :=
  Att.attach_call hn hdf fun w s₀ s₁ mg mb fa o pm cd doc a vs ns G Y ho hd hcd hmg hobj hints hlen hg => by
    obtain ⟨M1, e⟩ := hden w ns hlen
    exact law_go (hY w _ Y) G.T.g G.T.b G.T.builtins G.T.nolimit hg hobj hints (Nat.le_trans hlen hn2) hr (F w mg fa _ (hY w _ Y) G.T.g hmg G.X) e
end Mp

set_option Elab.async false
set_option linter.all false
set_option maxRecDepth 100000
set_option maxHeartbeats 4000000
set_option autoImplicit false
namespace Mp
open PySem PySem.Spec PyProof.Rows L2
/-! ### the module from its rows -/
structure Row where
  x : Str
  st : Stmt
  N : List Str
  ps : List Str
def Row.fn (r : Row) : Fn := ⟨r.ps, r.N.length, sms ((defBody r.st).map (cS 60 r.N (defScope r.st).names))⟩
def Row.ok (r : Row) : Bool :=
  let sc := defScope r.st
  let ar := defArgs r.st
  decide (sc.kind = .function) && !sc.isCoroutine && !sc.isGenerator && decide r.N.Nodup && decide (r.N.take r.ps.length = r.ps) &&
  (r.ps.all fun x => sc.names.lookup x == some .local || sc.names.lookup x == some .cell) && (sc.names.all fun y => match y.2 with
    | .free => false
    | _ => true) &&
  ar.posonlyargs.isEmpty && decide (ar.args.map (·.arg) = r.ps) && ar.kwonlyargs.isEmpty && ar.vararg.isNone && ar.kwarg.isNone
theorem Row.scope {r : Row} (h : r.ok = true) : FnScope r.N r.ps (defScope r.st) := by
  unfold Row.ok at h
  simp only [Bool.and_eq_true, Bool.not_eq_true', decide_eq_true_eq, List.all_eq_true, Bool.or_eq_true, beq_iff_eq] at h
  obtain ⟨⟨⟨⟨⟨⟨⟨⟨⟨⟨⟨h1, h2⟩, h3⟩, h4⟩, h5⟩, h6⟩, h7⟩, _⟩, _⟩, _⟩, _⟩, _⟩ := h
  refine ⟨h1, h2, h3, h4, h5, h6, fun y hy e => ?_⟩
  have := h7 y hy
  rw [e] at this
  cases this
theorem Row.plain {r : Row} (h : r.ok = true) {nm qual : Str} {kV doc pm : Value} {an : Option Addr} {cdv ct : Value} : Plain (PySem.W.fnOf nm qual (defArgs r.st) (defBody r.st) (defScope r.st) .none kV doc pm an cdv ct) r.ps := by
  unfold Row.ok at h
  simp only [Bool.and_eq_true, Bool.not_eq_true', decide_eq_true_eq, List.all_eq_true, Bool.or_eq_true, beq_iff_eq, List.isEmpty_iff, Option.isNone_iff_eq_none] at h
  obtain ⟨⟨⟨⟨⟨⟨⟨⟨⟨⟨⟨_, _⟩, _⟩, _⟩, _⟩, _⟩, _⟩, h1⟩, h2⟩, h3⟩, h4⟩, h5⟩ := h
  exact ⟨h1, h2, h3, h4, h5, rfl⟩
/-- what the top has written of a def -/
def FnK (K : PySem.W.Frag) (x : Str) (st : Stmt) : Prop := ∃ (a : Addr) (oc : Value) (od : Option Addr) (kV dc pm : Value) (an : Option Addr) (cd ct : Value) (sl : Array (Option Value)),
  PySem.W.nsIn K mainGlobals x = some (some (.ref a)) ∧ K.lookup a = some ⟨oc, od, .func (PySem.W.fnOf x x (defArgs st) (defBody st) (defScope st) .none kV dc pm an cd ct), sl⟩ ∧ PySem.W.codeIn K cd x = true ∧ PySem.W.keepIn K (.ref a) = true
theorem fnK {K : PySem.W.Frag} {x : Str} {st : Stmt} {a : Addr} {oc : Value} {od : Option Addr} {kV dc pm : Value} {an : Option Addr} {cd ct : Value} {sl : Array (Option Value)} (h1 : PySem.W.nsIn K mainGlobals x = some (some (.ref a)))
    (h2 : K.lookup a = some ⟨oc, od, .func (PySem.W.fnOf x x (defArgs st) (defBody st) (defScope st) .none kV dc pm an cd ct), sl⟩) (h3 : PySem.W.codeIn K cd x = true) (h4 : PySem.W.keepIn K (.ref a) = true) : FnK K x st := ⟨a, oc, od, kV, dc, pm, an, cd, ct, sl, h1, h2, h3, h4⟩
def FnKs (K : PySem.W.Frag) : List Row → Prop
  | [] => True
  | r :: l => FnK K r.x r.st ∧ FnKs K l
theorem FnKs.mem {K : PySem.W.Frag} : ∀ {l : List Row}, FnKs K l → ∀ r ∈ l, FnK K r.x r.st
  | r :: l, h, q, hq => by
    rcases List.mem_cons.mp hq with e | e
    · rw [e]; exact h.1
    · exact FnKs.mem h.2 q e
/-- ints that stand as globals -/
def IntK (mg : Str → Option Value) (x : Str) (i : Int) : Prop := ∃ t, mg x = some (.int i t)
theorem intK {K : PySem.W.Frag} {mg : Str → Option Value} {h : Heap} {x : Str} {i : Int} {t : Tok} (KX : K.In h) (G : h.Ns mainGlobals mg) (e : PySem.W.nsIn K mainGlobals x = some (some (.int i t))) : IntK mg x i := ⟨t, PySem.W.mg_of KX G e⟩
theorem intL {mg : Str → Option Value} {h : Heap} {lv : List (Str × PySem.W.WData)} {x : Str} {i : Int} (X : PySem.W.LooseAre lv mg h) (e : lv.lookup x = some (.int i)) : IntK mg x i := by
  obtain ⟨v, a, b⟩ := X.val (x, .int i) (PySem.mem_of_lookup e)
  cases b
  exact ⟨_, a⟩
def IntKs (mg : Str → Option Value) : List (Str × Int) → Prop
  | [] => True
  | r :: l => IntK mg r.1 r.2 ∧ IntKs mg l
theorem IntKs.mem {mg : Str → Option Value} : ∀ {l : List (Str × Int)}, IntKs mg l → ∀ r ∈ l, IntK mg r.1 r.2
  | r :: l, h, q, hq => by
    rcases List.mem_cons.mp hq with e | e
    · rw [e]; exact h.1
    · exact IntKs.mem h.2 q e
def NoK (K : PySem.W.Frag) : List Str → Prop
  | [] => True
  | x :: l => PySem.W.nsIn K mainGlobals x = some none ∧ NoK K l
theorem NoK.mem {K : PySem.W.Frag} : ∀ {l : List Str}, NoK K l → ∀ x ∈ l, PySem.W.nsIn K mainGlobals x = some none
  | r :: l, h, q, hq => by
    rcases List.mem_cons.mp hq with e | e
    · rw [e]; exact h.1
    · exact NoK.mem h.2 q e
def globOf (cs : List (Str × Int)) (x : Str) : Option D := (cs.lookup x).map .int
def fnsOf' (rows : List Row) (f : Str) : Option Fn := (rows.find? fun r => r.x == f).map Row.fn
theorem md_rows {K : PySem.W.Frag} {mg : Str → Option Value} {h : Heap} {rows : List Row} {cs : List (Str × Int)} (KX : K.In h) (G : h.Ns mainGlobals mg) (ok : rows.all Row.ok = true) (hf : FnKs K rows) (hc : IntKs mg cs) (hn : NoK K bltNames) : Md K mg (globOf cs) (fnsOf' rows) where
  blt := fun f hf' => PySem.W.mg_none_of KX G (hn.mem f hf')
  glob := fun x d e => by
    unfold globOf at e
    obtain ⟨i, e1, rfl⟩ := Option.map_eq_some_iff.mp e
    obtain ⟨t, q⟩ := hc.mem (x, i) (PySem.mem_of_lookup e1)
    exact ⟨_, .int i, q, ⟨t, rfl⟩, fun _ _ => .int i⟩
  fn := fun f F e => by
    unfold fnsOf' at e
    obtain ⟨r, e1, rfl⟩ := Option.map_eq_some_iff.mp e
    have hr := List.mem_of_find?_eq_some e1
    have hx : r.x = f := by simpa using List.find?_some e1
    subst hx
    have okr := List.all_eq_true.mp ok r hr
    obtain ⟨a, oc, od, kV, dc, pm, an, cd, ct, sl, h1, h2, h3, h4⟩ := hf.mem r hr
    exact ⟨a, r.x, r.x, r.st, _, r.N, r.ps, 60, PySem.W.mg_of KX G h1, fun_mk h2 h3 h4, Row.scope okr, Row.plain okr, rfl⟩
theorem FnKs.nil {K : PySem.W.Frag} : FnKs K [] := trivial
theorem FnKs.cons {K : PySem.W.Frag} {r : Row} {l : List Row} (h : FnK K r.x r.st) (t : FnKs K l) : FnKs K (r :: l) := ⟨h, t⟩
theorem IntKs.nil {mg : Str → Option Value} : IntKs mg [] := trivial
theorem IntKs.cons {mg : Str → Option Value} {r : Str × Int} {l : List (Str × Int)} (h : IntK mg r.1 r.2) (t : IntKs mg l) : IntKs mg (r :: l) := ⟨h, t⟩
theorem NoK.nil {K : PySem.W.Frag} : NoK K [] := trivial
theorem NoK.cons {K : PySem.W.Frag} {r : Str} {l : List Str} (h : PySem.W.nsIn K mainGlobals r = some none) (t : NoK K l) : NoK K (r :: l) := ⟨h, t⟩
theorem md_end {xr : XR} {P : Program} {w : World} {K : PySem.W.Frag} {mg : Str → Option Value} {h base : Heap} {rows : List Row} {cs : List (Str × Int)} {L k : Nat} {f : Str} {F : Fn} {fa : Addr} (KX : K.In h) (G : h.Ns mainGlobals mg) (ok : rows.all Row.ok = true) (hmg : mg f = some (.ref fa)) (hF : fnsOf' rows f = some F)
    (hf : FnKs K rows) (hc : IntKs mg cs) (hn : NoK K bltNames) : GFn xr P w K mg base k fa (callF (globOf cs) L (fnsOf' rows) k f) := by
  obtain ⟨a, e, _, g⟩ := md_fn (xr := xr) (P := P) (w := w) (base := base) (L := L) (md_rows KX G ok hf hc hn) k f F hF
  cases hmg.symm.trans e
  exact g
end Mp

set_option Elab.async false
set_option linter.all false
set_option maxRecDepth 100000
set_option maxHeartbeats 4000000
set_option autoImplicit false
/-! Facts about the evaluator alone: loops, comparisons. -/
namespace Mp
open PySem PySem.Spec L2
section
variable {g : D → S → Option S} {b : S → Mem → Fl} {it : It} {N : Nat}
/-- a for loop that runs to its end -/
theorem fr_all (P : Nat → S → Mem → Prop) {σ : S} {M : Mem} (h0 : P 0 σ M) (fin : ∀ σ M, P N σ M → it.ends M N = true)
    (step : ∀ i σ M, i < N → P i σ M → ∃ x σ1 σ2 M2, it.item M N (N - i) = some x ∧ g x σ = some σ1 ∧ (b σ1 M = .nx σ2 M2 ∨ b σ1 M = .ct σ2 M2) ∧ P (i + 1) σ2 M2) : ∃ σ' M', frGo g b it N N σ M = .nx σ' M' ∧ P N σ' M' := by
  have go : ∀ k, ∀ i σ M, i + k = N → P i σ M → ∃ σ' M', frGo g b it N k σ M = .nx σ' M' ∧ P N σ' M' := by
    intro k
    induction k with
    | zero =>
      intro i σ M e p
      have : i = N := by omega
      subst this
      unfold frGo
      rw [if_pos (fin σ M p)]
      exact ⟨σ, M, rfl, p⟩
    | succ k ih =>
      intro i σ M e p
      obtain ⟨x, σ1, σ2, M2, e1, e2, e3, p2⟩ := step i σ M (by omega) p
      rw [show N - i = k + 1 by omega] at e1
      unfold frGo
      simp only [e1, e2]
      rcases e3 with e3 | e3 <;> (rw [e3]; exact ih (i + 1) σ2 M2 (by omega) p2)
  exact go N 0 σ M (by omega) h0
end
/-- a while loop that ends -/
theorem wh_all {c : S → Mem → Res Bool} {b : S → Mem → Fl} (P : Nat → S → Mem → Prop) (Q : S → Mem → Prop) {n L : Nat} {σ : S} {M : Mem} (h0 : P n σ M) (hL : n < L)
    (step : ∀ n σ M, P n σ M → (∃ M1, c σ M = .ok false M1 ∧ Q σ M1) ∨ ∃ M1 σ2 M2 m, c σ M = .ok true M1 ∧ (b σ M1 = .nx σ2 M2 ∨ b σ M1 = .ct σ2 M2) ∧ m < n ∧ P m σ2 M2) : ∃ σ' M', whGo c b L σ M = .nx σ' M' ∧ Q σ' M' := by
  induction L generalizing n σ M with
  | zero => omega
  | succ L ih =>
    unfold whGo
    rcases step n σ M h0 with ⟨M1, e, q⟩ | ⟨M1, σ2, M2, m, e, e2, lt, p⟩
    · rw [e]
      exact ⟨σ, M1, rfl, q⟩
    · rw [e]
      simp only [Res.fl_ok, if_true]
      rcases e2 with e2 | e2 <;> (rw [e2]; exact ih p (by omega))
/-- a comprehension that runs to its end: the list at r grows by what f says -/
theorem lc_all {step : D → Mem → Res (Option D)} {it : It} {N r : Nat} (P : Nat → List D → Mem → Prop) {M : Mem} (h0 : P 0 [] M) (hr : ∀ i acc M, P i acc M → M[r]? = some (.lst acc) ∧ acc.length < sizeLine) (fin : ∀ acc M, P N acc M → it.ends M N = true)
    (st : ∀ i acc M, i < N → P i acc M → ∃ x M1, it.item M N (N - i) = some x ∧ ((step x M = .ok none M1 ∧ P (i + 1) acc M1) ∨ ∃ y, step x M = .ok (some y) M1 ∧ M1[r]? = some (.lst acc) ∧ P (i + 1) (acc ++ [y]) (M1.set r (.lst (acc ++ [y]))))) :
    ∃ acc M', lcGo step it N r N M = .ok (.ref r) M' ∧ P N acc M' := by
  have go : ∀ k, ∀ i acc M, i + k = N → P i acc M → ∃ acc M', lcGo step it N r k M = .ok (.ref r) M' ∧ P N acc M' := by
    intro k
    induction k with
    | zero =>
      intro i acc M e p
      have : i = N := by omega
      subst this
      unfold lcGo
      rw [if_pos (fin acc M p)]
      exact ⟨acc, M, rfl, p⟩
    | succ k ih =>
      intro i acc M e p
      obtain ⟨x, M1, e1, h⟩ := st i acc M (by omega) p
      rw [show N - i = k + 1 by omega] at e1
      unfold lcGo
      simp only [e1]
      rcases h with ⟨e2, p2⟩ | ⟨y, e2, e3, p2⟩
      · rw [e2]; exact ih (i + 1) acc M1 (by omega) p2
      · rw [e2]
        simp only [e3]
        rw [if_pos (hr i acc M p).2]
        exact ih (i + 1) _ _ (by omega) p2
  exact go N 0 [] M (by omega) h0
/-! ### comparisons -/
theorem rd_int (k : Nat) (M : Mem) (i : Int) : rd (k + 1) M (.int i) = some (.int i) := rfl
theorem mapO_map {α β γ : Type} {f : β → Option γ} {h : α → β} {e : α → γ} (q : ∀ a, f (h a) = some (e a)) : ∀ l : List α, mapO f (l.map h) = some (l.map e)
  | [] => rfl
  | a :: l => by
    simp only [List.map_cons, mapO, q, mapO_map q l]
theorem rd_ints (k : Nat) (M : Mem) (ns : List Int) : mapO (rd (k + 1) M) (ns.map .int) = some (ns.map .int) := mapO_map (fun i => rd_int k M i) ns
theorem rd_tup (k : Nat) (M : Mem) (ns : List Int) : rd (k + 2) M (.tup (ns.map .int)) = some (.tuple (ns.map .int)) := by
  show (mapO (rd (k + 1) M) (ns.map .int)).map PyData.tuple = _
  rw [rd_ints]; rfl
theorem canLay_ints : ∀ ns : List Int, PyData.canLayAll0 (ns.map .int) = true
  | [] => rfl
  | n :: ns => by
    rw [List.map_cons]
    unfold PyData.canLayAll0
    rw [canLay_ints ns]; rfl
theorem eqvAll_refl_ints : ∀ ns : List Int, PyData.eqvAll (ns.map .int) (ns.map .int) = true
  | [] => rfl
  | n :: ns => by
    rw [List.map_cons]
    unfold PyData.eqvAll
    rw [eqvAll_refl_ints ns]
    simp [PyData.eqv]
@[simp] theorem eqD_int (M : Mem) (a b : Int) : eqD M (.int a) (.int b) = some (a == b) := rfl
/-! ### the evaluator's steps -/
section
variable (M M1 : Mem) (σ : S) (d : D) (f : S → Mem → Fl) (e : Exn)
@[simp] theorem seq_nx : (Fl.nx σ M).seq f = f σ M := rfl
@[simp] theorem seq_rt : (Fl.rt d M).seq f = .rt d M := rfl
@[simp] theorem seq_bk : (Fl.bk σ M).seq f = .bk σ M := rfl
@[simp] theorem seq_ct : (Fl.ct σ M).seq f = .ct σ M := rfl
@[simp] theorem seq_exc : (Fl.exc e σ M).seq f = .exc e σ M := rfl
@[simp] theorem seq_bad : Fl.bad.seq f = .bad := rfl
@[simp] theorem ran_nx : ran (.nx σ M) = .ok .non M := rfl
@[simp] theorem ran_rt : ran (.rt d M) = .ok d M := rfl
@[simp] theorem ran_exc : ran (.exc e σ M) = .exc e M := rfl
@[simp] theorem tr_non : truth M .non = some false := rfl
@[simp] theorem tr_bl (b : Bool) : truth M (.bl b) = some b := rfl
@[simp] theorem tr_int (i : Int) : truth M (.int i) = some (i != 0) := rfl
@[simp] theorem tr_tup (l : List D) : truth M (.tup l) = some (!l.isEmpty) := rfl
@[simp] theorem add_int (a b : Int) : bop .add (.int a) (.int b) M = .ok (.int (a + b)) M := rfl
@[simp] theorem sub_int (a b : Int) : bop .sub (.int a) (.int b) M = .ok (.int (a - b)) M := rfl
theorem fdiv_int (a b : Int) (h : 0 < b) (h2 : b.natAbs.log2 < 9000) : bop .fdiv (.int a) (.int b) M = .ok (.int (a / b)) M := if_pos ⟨h, h2⟩
theorem mod_int (a b : Int) (h : 0 < b) : bop .mod (.int a) (.int b) M = .ok (.int (a % b)) M := if_pos h
theorem mul_int (a b : Int) (h : mulOk a b = true) : bop .mul (.int a) (.int b) M = .ok (.int (a * b)) M := if_pos h
@[simp] theorem cop_eq (a b : D) : cop .eq a b M = eqD M a b := rfl
@[simp] theorem cop_ne (a b : D) : cop .ne a b M = (eqD M a b).map (!·) := rfl
@[simp] theorem cop_lt (a b : Int) : cop .lt (.int a) (.int b) M = some (decide (a < b)) := rfl
@[simp] theorem cop_le (a b : Int) : cop .le (.int a) (.int b) M = some (decide (a ≤ b)) := rfl
@[simp] theorem cop_gt (a b : Int) : cop .gt (.int a) (.int b) M = some (decide (b < a)) := rfl
@[simp] theorem cop_ge (a b : Int) : cop .ge (.int a) (.int b) M = some (decide (b ≤ a)) := rfl
@[simp] theorem cop_isq : cop .isq d .non M = some (isNonD d) := rfl
@[simp] theorem cop_isn : cop .isn d .non M = some (!isNonD d) := rfl
@[simp] theorem isNon_non : isNonD .non = true := rfl
@[simp] theorem isNon_int (i : Int) : isNonD (.int i) = false := rfl
@[simp] theorem isNon_tup (l : List D) : isNonD (.tup l) = false := rfl
@[simp] theorem isi_int (i : Int) (t : String) : isiD M (.int i) t = some ("int" == t || ("int" == "bool" && t == "int")) := rfl
@[simp] theorem isi_tup (l : List D) (t : String) : isiD M (.tup l) t = some ("tuple" == t || ("tuple" == "bool" && t == "int")) := rfl
@[simp] theorem len_tup (l : List D) : bfn .len [.tup l] M = .ok (.int (l.length : Nat)) M := rfl
@[simp] theorem src_tup (l : List D) : srcOf M (.tup l) = some (.snap l) := rfl
@[simp] theorem idx_tup (l : List D) (k : Int) : idxD (.tup l) (.int k) M = atD l k := rfl
theorem atD_nat {α : Type} (l : List α) (i : Nat) : atD l (i : Int) = l[i]? := by
  unfold atD L2.atI L2.ixN
  rw [if_pos (Int.natCast_nonneg i)]
  by_cases h : i < l.length
  · rw [if_pos (by omega)]
    simp
  · rw [if_neg (by omega)]
    rw [List.getElem?_eq_none (by omega)]
    rfl
end
/-! ### what is walked -/
section
variable {l : List D} {M : Mem} {i : Nat} {d : D}
theorem item_one (h : l[i]? = some d) : (It.one (.snap l)).item M l.length (l.length - i) = some d := by
  have hi := (List.getElem?_eq_some_iff.mp h).1
  show (if l.length = l.length then l[l.length - (l.length - i)]? else none) = _
  rw [if_pos rfl, show l.length - (l.length - i) = i by omega, h]
theorem ends_one : (It.one (.snap l)).ends M l.length = true := by
  show decide (l.length = l.length) = true
  simp
theorem item_enum (h : l[i]? = some d) : (It.enum (.snap l)).item M l.length (l.length - i) = some (.tup [.int (i : Nat), d]) := by
  have hi := (List.getElem?_eq_some_iff.mp h).1
  show (if (l.mapIdx fun i d => D.tup [.int (i : Nat), d]).length = l.length then (l.mapIdx fun i d => D.tup [.int (i : Nat), d])[l.length - (l.length - i)]? else none) = _
  rw [List.length_mapIdx, if_pos rfl, show l.length - (l.length - i) = i by omega, List.getElem?_mapIdx, h]
  rfl
theorem ends_enum : (It.enum (.snap l)).ends M l.length = true := by
  show decide ((l.mapIdx fun i d => D.tup [.int (i : Nat), d]).length = l.length) = true
  simp
@[simp] theorem now_one : (It.one (.snap l)).now M = some l := rfl
@[simp] theorem now_enum : (It.enum (.snap l)).now M = some (l.mapIdx fun i d => .tup [.int (i : Nat), d]) := rfl
end
/-- for i, x in enumerate(l) to its end -/
theorem fr_enum {g : D → S → Option S} {b : S → Mem → Fl} {l : List D} (P : Nat → S → Mem → Prop) {σ : S} {M : Mem} (h0 : P 0 σ M)
    (step : ∀ (i : Nat) (d : D) σ M, l[i]? = some d → P i σ M → ∃ σ1 σ2 M2, g (.tup [.int (i : Nat), d]) σ = some σ1 ∧ (b σ1 M = .nx σ2 M2 ∨ b σ1 M = .ct σ2 M2) ∧ P (i + 1) σ2 M2) : ∃ σ' M', frGo g b (.enum (.snap l)) l.length l.length σ M = .nx σ' M' ∧ P l.length σ' M' :=
  fr_all P h0 (fun _ _ _ => ends_enum) fun i σ M hi p => by
    obtain ⟨σ1, σ2, M2, e1, e2, e3⟩ := step i l[i] σ M (List.getElem?_eq_getElem hi) p
    exact ⟨_, σ1, σ2, M2, item_enum (List.getElem?_eq_getElem hi), e1, e2, e3⟩
theorem fr_one {g : D → S → Option S} {b : S → Mem → Fl} {l : List D} (P : Nat → S → Mem → Prop) {σ : S} {M : Mem} (h0 : P 0 σ M)
    (step : ∀ (i : Nat) (d : D) σ M, l[i]? = some d → P i σ M → ∃ σ1 σ2 M2, g d σ = some σ1 ∧ (b σ1 M = .nx σ2 M2 ∨ b σ1 M = .ct σ2 M2) ∧ P (i + 1) σ2 M2) : ∃ σ' M', frGo g b (.one (.snap l)) l.length l.length σ M = .nx σ' M' ∧ P l.length σ' M' :=
  fr_all P h0 (fun _ _ _ => ends_one) fun i σ M hi p => by
    obtain ⟨σ1, σ2, M2, e1, e2, e3⟩ := step i l[i] σ M (List.getElem?_eq_getElem hi) p
    exact ⟨_, σ1, σ2, M2, item_one (List.getElem?_eq_getElem hi), e1, e2, e3⟩
/-- a loop's outcome, and what comes of it -/
theorem fl_bind {r : Fl} {f : S → Mem → Fl} {P : S → Mem → Prop} {X : Fl → Prop} (h : ∃ σ' M', r = .nx σ' M' ∧ P σ' M') (k : ∀ σ' M', P σ' M' → X (f σ' M')) : X (r.seq f) := by
  obtain ⟨σ', M', rfl, p⟩ := h
  exact k σ' M' p
theorem ran_bind {r : Fl} {f : S → Mem → Fl} {P : S → Mem → Prop} {X : Res D} (h : ∃ σ' M', r = .nx σ' M' ∧ P σ' M') (k : ∀ σ' M', P σ' M' → ran (f σ' M') = X) : ran (r.seq f) = X := fl_bind (X := fun r => ran r = X) h k
theorem fr_enumN {g : D → S → Option S} {b : S → Mem → Fl} {l : List D} {N : Nat} {σ : S} {M : Mem} (hN : N = l.length) (P : Nat → S → Mem → Prop) (h0 : P 0 σ M)
    (step : ∀ (i : Nat) (d : D) σ M, l[i]? = some d → P i σ M → ∃ σ1 σ2 M2, g (.tup [.int (i : Nat), d]) σ = some σ1 ∧ (b σ1 M = .nx σ2 M2 ∨ b σ1 M = .ct σ2 M2) ∧ P (i + 1) σ2 M2) : ∃ σ' M', frGo g b (.enum (.snap l)) N N σ M = .nx σ' M' ∧ P N σ' M' := by
  subst hN
  exact fr_enum P h0 step
theorem fr_oneN {g : D → S → Option S} {b : S → Mem → Fl} {l : List D} {N : Nat} {σ : S} {M : Mem} (hN : N = l.length) (P : Nat → S → Mem → Prop) (h0 : P 0 σ M)
    (step : ∀ (i : Nat) (d : D) σ M, l[i]? = some d → P i σ M → ∃ σ1 σ2 M2, g d σ = some σ1 ∧ (b σ1 M = .nx σ2 M2 ∨ b σ1 M = .ct σ2 M2) ∧ P (i + 1) σ2 M2) : ∃ σ' M', frGo g b (.one (.snap l)) N N σ M = .nx σ' M' ∧ P N σ' M' := by
  subst hN
  exact fr_one P h0 step
theorem set_len {α : Type} (l : List α) (n : Nat) (a : α) : (l.set n a).length = l.length := List.length_set
theorem le_pair (M : Mem) (a b c d : Int) : cop .le (.tup [.int a, .int b]) (.tup [.int c, .int d]) M = some (if a = c then decide (b ≤ d) else decide (a ≤ c)) := by
  show leD (.tup [.int a, .int b]) (.tup [.int c, .int d]) = _
  simp only [leD, allInts, Option.map_some, leT, List.length_cons, List.length_nil, Nat.zero_add, Nat.reduceAdd, Nat.min_self, Ob.lexAt]
  by_cases h : a = c
  · by_cases h2 : b = d <;> simp [h, h2]
  · simp [h]
theorem cut2 (u x y : D) : cutD [u, x, y] none (some 2) = [u, x] := rfl
@[simp] theorem slc_tup (l : List D) (p q : Option Int) (M : Mem) : slcD (.tup l) p q M = .ok (.tup (cutD l p q)) M := rfl
@[simp] theorem sz0 : 0 ≤ sizeLine := by decide
@[simp] theorem sz1 : 1 ≤ sizeLine := by decide
@[simp] theorem sz2 : 2 ≤ sizeLine := by decide
@[simp] theorem sz3 : 3 ≤ sizeLine := by decide
@[simp] theorem sz4 : 4 ≤ sizeLine := by decide
@[simp] theorem sz5 : 5 ≤ sizeLine := by decide
@[simp] theorem sz6 : 6 ≤ sizeLine := by decide
@[simp] theorem sz7 : 7 ≤ sizeLine := by decide
theorem szN {n : Nat} (h : n ≤ 1000) : n ≤ sizeLine := Nat.le_trans h (by decide)
theorem inD_ints (M : Mem) (a : Int) (ns : List Int) : inD M (.int a) (.tup (ns.map .int)) = some (decide (a ∈ ns)) := by
  have h1 : (ns.map D.int).all flatD = true := by
    rw [List.all_map]; exact List.all_eq_true.mpr fun _ _ => rfl
  have h2 : ((ns.map D.int).any fun y => eqF y (.int a)) = decide (a ∈ ns) := by
    rw [List.any_map]
    induction ns with
    | nil => rfl
    | cons n ns ih =>
      rw [List.all_map] at *
      rw [List.any_cons, ih (by simp [flatD])]
      show ((n == a) || decide (a ∈ ns)) = _
      by_cases h : n = a
      · subst h; simp
      · have h' : ¬ a = n := fun e => h e.symm
        simp [h, h']
  show (if flatD (.int a) && (ns.map D.int).all flatD then some ((ns.map D.int).any fun y => eqF y (.int a)) else none) = _
  rw [h1, h2]
  rfl
@[simp] theorem cop_in (M : Mem) (a b : D) : cop .isin a b M = inD M a b := rfl
@[simp] theorem cop_nin (M : Mem) (a b : D) : cop .notin a b M = (inD M a b).map (!·) := rfl
theorem setD_lst {M : Mem} {n i : Nat} {l : List D} {v : D} (h : M[n]? = some (.lst l)) (hi : i < l.length) : setD (.ref n) (.int (i : Nat)) v M = some (M.set n (.lst (l.set i v))) := by
  unfold setD
  simp only [h]
  rw [if_pos ⟨Int.natCast_nonneg i, by omega⟩, Int.toNat_natCast]
theorem idx_lst {M : Mem} {n : Nat} {l : List D} {i : Int} (h : M[n]? = some (.lst l)) : idxD (.ref n) (.int i) M = atD l i := by
  unfold idxD
  simp only [h]
@[simp] theorem last_get (M : Mem) (o : MO) : (M ++ [o])[M.length]? = some o := by simp
@[simp] theorem last_set (M : Mem) (o u : MO) : (M ++ [o]).set M.length u = M ++ [u] := by simp
theorem log_small {m : Int} (h : m ≤ 1000) (h0 : 0 < m) : m.natAbs.log2 < 9000 := by
  have : m.natAbs.log2 < 10 := (Nat.log2_lt (by omega)).mpr (by omega)
  omega
theorem mul_small {a b : Int} (h1 : -1000000 ≤ a) (h2 : a ≤ 1000000) : mulOk a b = true := by
  unfold mulOk
  exact decide_eq_true (.inl ⟨by omega, by omega⟩)
def nth (l : List Int) (i : Nat) : Int := l.getD i 0
theorem nth_eq {l : List Int} {i : Nat} (h : i < l.length) : nth l i = l[i] := by
  unfold nth
  rw [List.getD_eq_getElem?_getD, List.getElem?_eq_getElem h]
  rfl
theorem nth_of {l : List Int} {i : Nat} {x : Int} (h : l[i]? = some x) : nth l i = x := by
  unfold nth
  rw [List.getD_eq_getElem?_getD, h]
  rfl
theorem nth_mem {l : List Int} {i : Nat} (h : i < l.length) : nth l i ∈ l := by
  rw [nth_eq h]
  exact List.getElem_mem h
theorem at_int {l : List Int} {i : Nat} (h : i < l.length) : (l.map D.int)[i]? = some (.int (nth l i)) := by
  rw [List.getElem?_map, List.getElem?_eq_getElem h, nth_eq h]
  rfl
theorem at_nth {l : List Int} {i : Nat} (h : i < l.length) : l[i]? = some (nth l i) := by
  rw [nth_eq h, List.getElem?_eq_getElem h]
theorem nth_set {l : List Int} {i j : Nat} {x : Int} (h : i < l.length) : nth (l.set i x) j = if i = j then x else nth l j := by
  unfold nth
  by_cases e : i = j
  · subst e; simp [h]
  · simp [e]
/-- a comprehension whose parts write nothing -/
theorem lc_pure {step : D → Mem → Res (Option D)} {it : It} {its ys : List D} {N : Nat} {M : Mem} (hN : its.length = N) (hs : N ≤ 1000) (hy : ys.length = N) (hnow : ∀ acc, it.now (M ++ [.lst acc]) = some its)
    (hst : ∀ (i : Nat) (x y : D) acc, its[i]? = some x → ys[i]? = some y → step x (M ++ [.lst acc]) = .ok (some y) (M ++ [.lst acc])) : lcGo step it N M.length N (M ++ [.lst []]) = .ok (.ref M.length) (M ++ [.lst ys]) := by
  have h1000 : 1000 < sizeLine := by decide
  obtain ⟨acc, M', e, p1, p2⟩ := lc_all (step := step) (it := it) (N := N) (r := M.length) (M := M ++ [.lst []]) (fun i acc M' => M' = M ++ [.lst acc] ∧ acc = ys.take i) ⟨rfl, rfl⟩
    (fun i acc M' ⟨h1, h2⟩ => by
      subst h1
      refine ⟨last_get _ _, ?_⟩
      rw [h2, List.length_take]; omega)
    (fun acc M' ⟨h1, _⟩ => by
      subst h1
      show (match it.now (M ++ [.lst acc]) with | some l => decide (l.length = N) | none => false) = true
      rw [hnow]
      simpa using hN)
    (fun i acc M' hi ⟨h1, h2⟩ => by
      subst h1
      have ex : its[i]? = some (its[i]'(by omega)) := List.getElem?_eq_getElem _
      have ey : ys[i]? = some (ys[i]'(by omega)) := List.getElem?_eq_getElem _
      refine ⟨its[i]'(by omega), M ++ [.lst acc], ?_, .inr ⟨ys[i]'(by omega), hst i _ _ acc ex ey, last_get _ _, ?_, ?_⟩⟩
      · show (match it.now (M ++ [.lst acc]) with | some l => if l.length = N then l[N - (N - i)]? else none | none => none) = _
        rw [hnow]
        simp only [hN, if_true]
        rw [show N - (N - i) = i by omega, ex]
      · rw [last_set]
      · rw [h2, List.take_add_one, ey]; rfl)
  subst p1
  rw [e, p2, List.take_of_length_le (by omega)]
@[simp] theorem now_zip (a b : Src) (M : Mem) : (It.zip a b).now M = match a.now M, b.now M with
    | some x, some y => some (List.zipWith (fun x y => .tup [x, y]) x y)
    | _, _ => none := rfl
@[simp] theorem now_snap (l : List D) (M : Mem) : (Src.snap l).now M = some l := rfl
@[simp] theorem now_lst (n : Nat) (M : Mem) : (Src.lst n).now M = listAt M n := rfl
theorem listAt_app {M N : Mem} {n : Nat} {l : List D} (h : M[n]? = some (.lst l)) : listAt (M ++ N) n = some l := by
  unfold listAt
  rw [List.getElem?_append_left (List.getElem?_eq_some_iff.mp h).1, h]
theorem listAt_of {M : Mem} {n : Nat} {l : List D} (h : M[n]? = some (.lst l)) : listAt M n = some l := by
  unfold listAt
  rw [h]
theorem src_ref {M : Mem} {n : Nat} {l : List D} (h : M[n]? = some (.lst l)) : srcOf M (.ref n) = some (.lst n) := by
  simp only [srcOf, listAt_of h]
/-! ### one form at a time -/
def nxO (o : Option S) (M : Mem) : Fl := match o with
  | some s => .nx s M
  | none => .bad
def nxM (σ : S) (o : Option Mem) : Fl := match o with
  | some M => .nx σ M
  | none => .bad
@[simp] theorem nxO_some (s : S) (M : Mem) : nxO (some s) M = .nx s M := rfl
@[simp] theorem nxM_some (s : S) (M : Mem) : nxM s (some M) = .nx s M := rfl
section
variable {G : Gl} {σ : S} {M M1 : Mem}
theorem ev_c {d : D} : ev G (.c d) σ M = .ok d M := by simp only [ev]
theorem ev_v {i : Nat} {d : D} (h : σ[i]? = some (some d)) : ev G (.v i) σ M = .ok d M := by simp only [ev, h]
theorem ev_g {x : Str} : ev G (.g x) σ M = Res.ofO (G.glob x) M := by simp only [ev]
theorem ev_bin {o : Bop} {a b : Ir} : ev G (.bin o a b) σ M = (ev G a σ M).bind fun x M1 => (ev G b σ M1).bind fun y M2 => bop o x y M2 := by simp only [ev]
theorem ev_nt {a : Ir} : ev G (.nt a) σ M = (ev G a σ M).bind fun x M1 => Res.ofO ((truth M1 x).map fun b => .bl (!b)) M1 := by simp only [ev]
theorem ev_cmp {o : Cop} {a b : Ir} : ev G (.cmp o a b) σ M = (ev G a σ M).bind fun x M1 => (ev G b σ M1).bind fun y M2 => Res.ofO ((cop o x y M2).map .bl) M2 := by simp only [ev]
theorem ev_chn {o p : Cop} {a b c : Ir} : ev G (.chn o p a b c) σ M = (ev G a σ M).bind fun x M1 => (ev G b σ M1).bind fun y M2 => (Res.ofO (cop o x y M2) M2).bind fun k M2 => if k = true then (ev G c σ M2).bind fun z M3 => Res.ofO ((cop p y z M3).map .bl) M3 else .ok (.bl false) M2 := by simp only [ev]
theorem ev_an {a b : Ir} : ev G (.an a b) σ M = (ev G a σ M).bind fun x M1 => (Res.ofO (truth M1 x) M1).bind fun k M1 => if k = true then ev G b σ M1 else .ok x M1 := by simp only [ev]
theorem ev_orr {a b : Ir} : ev G (.orr a b) σ M = (ev G a σ M).bind fun x M1 => (Res.ofO (truth M1 x) M1).bind fun k M1 => if k = true then .ok x M1 else ev G b σ M1 := by simp only [ev]
theorem ev_ite {c a b : Ir} : ev G (.ite c a b) σ M = (ev G c σ M).bind fun x M1 => (Res.ofO (truth M1 x) M1).bind fun k M1 => if k = true then ev G a σ M1 else ev G b σ M1 := by simp only [ev]
theorem ev_tup {l : Irs} : ev G (.tup l) σ M = (evs G l σ M).bind fun ds M1 => if ds.length ≤ sizeLine then .ok (.tup ds) M1 else .bad := by simp only [ev]
theorem ev_lst {l : Irs} : ev G (.lst l) σ M = (evs G l σ M).bind fun ds M1 => if ds.length ≤ sizeLine then .ok (.ref M1.length) (M1 ++ [.lst ds]) else .bad := by simp only [ev]
theorem ev_idx {a i : Ir} : ev G (.idx a i) σ M = (ev G a σ M).bind fun x M1 => (ev G i σ M1).bind fun y M2 => Res.ofO (idxD x y M2) M2 := by simp only [ev]
theorem ev_slc {a : Ir} {lo hi : Iro} : ev G (.slc a lo hi) σ M = (ev G a σ M).bind fun x M1 => (evo G lo σ M1).bind fun p M2 => (evo G hi σ M2).bind fun q M3 => slcD x p q M3 := by simp only [ev]
theorem ev_call {f : Str} {l kv : Irs} {ks : List Str} (h : G.known f = true) : ev G (.call f l ks kv) σ M = (evs G l σ M).bind fun ds M1 => (evs G kv σ M1).bind fun es M2 => if es.length = ks.length then G.call f ds (ks.zip es) M2 else .bad := by simp [ev, h]
theorem ev_blt {f : Bf} {l : Irs} : ev G (.blt f l) σ M = (evs G l σ M).bind fun ds M1 => bfn f ds M1 := by simp only [ev]
theorem ev_mth {m : Mf} {o : Ir} {l : Irs} : ev G (.mth m o l) σ M = (ev G o σ M).bind fun x M1 => if isL M1 x = true then (evs G l σ M1).bind fun ds M2 => mfn m x ds M2 else .bad := by simp only [ev]
theorem ev_lc_map {vs : List Nat} {t : Tg} {it : Itr} {e : Ir} {i : It} {its ys : List D} (h1 : evi G it σ M = .ok i M1) (h2 : i.now M1 = some its) (h2' : ∀ acc, i.now (M1 ++ [.lst acc]) = some its) (hs : its.length ≤ 1000) (hy : ys.length = its.length)
    (h3 : ∀ (j : Nat) (x y : D) acc, its[j]? = some x → ys[j]? = some y → ∃ s, bindT t x (wipeS σ vs) = some s ∧ ev G e s (M1 ++ [.lst acc]) = .ok y (M1 ++ [.lst acc])) : ev G (.lc vs t it .nil e) σ M = .ok (.ref M1.length) (M1 ++ [.lst ys]) := by
  simp only [ev, h1, Res.bind_ok, h2]
  refine lc_pure rfl hs hy h2' fun j x y acc ex ey => ?_
  obtain ⟨s, b1, b2⟩ := h3 j x y acc ex ey
  simp only [b1, evc, Res.bind_ok, if_true, b2]
theorem xs_fr {t : Tg} {it : Itr} {b : Sms} {i : It} {l : List D} {r : Fl} (h1 : evi G it σ M = .ok i M1) (h2 : i.now M1 = some l) (h3 : frGo (bindT t) (xss G b) i l.length l.length σ M1 = r) : xs G (.fr t it b) σ M = r := by
  simp only [xs, h1, Res.fl_ok, h2]
  exact h3
theorem xs_ex {e : Ir} : xs G (.ex e) σ M = (ev G e σ M).fl σ fun _ M1 => .nx σ M1 := by simp only [xs]
theorem xs_set {t : Tg} {e : Ir} : xs G (.set (.t t) e) σ M = (ev G e σ M).fl σ fun x M1 => nxO (bindT t x σ) M1 := by
  simp only [xs]
  rfl
theorem xs_sub {o i e : Ir} : xs G (.set (.sub o i) e) σ M = (ev G e σ M).fl σ fun x M1 => (ev G o σ M1).fl σ fun a M2 => (ev G i σ M2).fl σ fun k M3 => nxM σ (setD a k x M3) := by
  simp only [xs]
  rfl
theorem xs_ret {e : Ir} : xs G (.ret e) σ M = (ev G e σ M).fl σ fun x M1 => .rt x M1 := by simp only [xs]
theorem xs_iff {c : Ir} {a b : Sms} : xs G (.iff c a b) σ M = (tst G c σ M).fl σ fun x M1 => if x = true then xss G a σ M1 else xss G b σ M1 := by simp only [xs]
theorem xs_whl {c : Ir} {b : Sms} : xs G (.whl c b) σ M = whGo (tst G c) (xss G b) G.L σ M := by simp only [xs]
theorem bt_n {i : Nat} {d : D} : bindT (.n i) d σ = some (σ.set i (some d)) := rfl
theorem bt_t {l : List Nat} {ds : List D} (h : l.length = ds.length) : bindT (.t l) (.tup ds) σ = some ((l.zip ds).foldl (fun s p => s.set p.1 (some p.2)) σ) := if_pos h
end
end Mp

set_option Elab.async false
set_option linter.all false
set_option maxRecDepth 100000
set_option maxHeartbeats 4000000
set_option autoImplicit false
namespace Mp
open PySem PySem.Spec L2
section
variable {G : Gl} {σ : S} {M M1 : Mem}
theorem lc_zip {vs : List Nat} {ia ib : Nat} {it : Itr} {e : Ir} {i : It} {as bs : List Int} {f : Int → Int → Int} (h1 : evi G it σ M = .ok i M1) (h2 : i.now M1 = some (List.zipWith (fun x y => .tup [x, y]) (as.map .int) (bs.map .int)))
    (h2' : ∀ acc, i.now (M1 ++ [.lst acc]) = some (List.zipWith (fun x y => .tup [x, y]) (as.map .int) (bs.map .int))) (hs : as.length ≤ 1000)
    (h3 : ∀ (j : Nat) (x y : Int) acc, as[j]? = some x → bs[j]? = some y → ev G e (((wipeS σ vs).set ia (some (.int x))).set ib (some (.int y))) (M1 ++ [.lst acc]) = .ok (.int (f x y)) (M1 ++ [.lst acc])) :
    ev G (.lc vs (.t [ia, ib]) it .nil e) σ M = .ok (.ref M1.length) (M1 ++ [.lst ((List.zipWith f as bs).map .int)]) := by
  refine ev_lc_map h1 h2 h2' (by simp; omega) (by simp) fun j x y acc hx hy => ?_
  rw [List.getElem?_zipWith, List.getElem?_map, List.getElem?_map] at hx
  rw [List.getElem?_map, List.getElem?_zipWith] at hy
  cases ea : as[j]? with
  | none => rw [ea] at hx; simp at hx
  | some a =>
    cases eb : bs[j]? with
    | none => rw [ea, eb] at hx; simp at hx
    | some b =>
      rw [ea, eb] at hx hy
      cases hx
      cases hy
      exact ⟨_, rfl, h3 j a b acc ea eb⟩
@[simp] theorem evs_nil : evs G .nil σ M = .ok [] M := by simp only [evs]
@[simp] theorem evs_cons {a : Ir} {l : Irs} : evs G (.cons a l) σ M = (ev G a σ M).bind fun x M1 => (evs G l σ M1).bind fun xs M2 => .ok (x :: xs) M2 := by simp only [evs]
theorem evi_zip {a b : Ir} {x y : D} {M2 : Mem} {s t : Src} (h1 : ev G a σ M = .ok x M1) (h2 : ev G b σ M1 = .ok y M2) (h3 : srcOf M2 x = some s) (h4 : srcOf M2 y = some t) : evi G (.zip a b) σ M = .ok (.zip s t) M2 := by
  simp only [evi, h1, h2, h3, h4, Res.bind_ok]
theorem evi_enum {a : Ir} {x : D} {s : Src} (h1 : ev G a σ M = .ok x M1) (h3 : srcOf M1 x = some s) : evi G (.enum a) σ M = .ok (.enum s) M1 := by
  simp only [evi, h1, h3, Res.bind_ok]; rfl
theorem evi_e {a : Ir} {x : D} {s : Src} (h1 : ev G a σ M = .ok x M1) (h3 : srcOf M1 x = some s) : evi G (.e a) σ M = .ok (.one s) M1 := by
  simp only [evi, h1, h3, Res.bind_ok]; rfl
theorem tup_lst {n : Nat} {l : List D} (h : M[n]? = some (.lst l)) : bfn .tuple [.ref n] M = .ok (.tup l) M := by
  simp only [bfn, lstOf, listAt_of h]
theorem now_app {M N : Mem} {n : Nat} {l : List D} {t : Src} {r : List D} (h : M[n]? = some (.lst l)) (ht : ∀ K, t.now K = some r) : (It.zip (.lst n) t).now (M ++ N) = some (List.zipWith (fun x y => .tup [x, y]) l r) := by
  simp only [now_zip, now_lst, listAt_app h, ht]
theorem now_app0 {M : Mem} {n : Nat} {l : List D} {t : Src} {r : List D} (h : M[n]? = some (.lst l)) (ht : ∀ K, t.now K = some r) : (It.zip (.lst n) t).now M = some (List.zipWith (fun x y => .tup [x, y]) l r) := by
  simp only [now_zip, now_lst, listAt_of h, ht]
end
/-- a comprehension with tests, whose parts write nothing -/
theorem ev_lc_filt {G : Gl} {σ : S} {M M1 : Mem} {vs : List Nat} {t : Tg} {it : Itr} {c : Irs} {e : Ir} {i : It} {its : List D} {p : D → Bool} {h : D → D} (h1 : evi G it σ M = .ok i M1) (h2 : i.now M1 = some its) (h2' : ∀ acc, i.now (M1 ++ [.lst acc]) = some its) (hs : its.length ≤ 1000)
    (h3 : ∀ x ∈ its, ∀ acc, ∃ s, bindT t x (wipeS σ vs) = some s ∧ ((p x = true ∧ evc G c s (M1 ++ [.lst acc]) = .ok true (M1 ++ [.lst acc]) ∧ ev G e s (M1 ++ [.lst acc]) = .ok (h x) (M1 ++ [.lst acc])) ∨ (p x = false ∧ evc G c s (M1 ++ [.lst acc]) = .ok false (M1 ++ [.lst acc])))) :
    ev G (.lc vs t it c e) σ M = .ok (.ref M1.length) (M1 ++ [.lst ((its.filter p).map h)]) := by
  have h1000 : 1000 < sizeLine := by decide
  simp only [ev, h1, Res.bind_ok, h2]
  obtain ⟨acc, M', e1, p1, p2⟩ := lc_all (step := fun x M2 => match bindT t x (wipeS σ vs) with
        | none => .bad
        | some s => (evc G c s M2).bind fun b M3 => if b = true then (ev G e s M3).bind fun y M4 => .ok (some y) M4 else .ok none M3) (it := i) (N := its.length) (r := M1.length) (M := M1 ++ [.lst []])
    (fun j acc M' => M' = M1 ++ [.lst acc] ∧ acc = ((its.take j).filter p).map h) ⟨rfl, rfl⟩
    (fun j acc M' ⟨q1, q2⟩ => by
      subst q1
      refine ⟨last_get _ _, ?_⟩
      rw [q2, List.length_map]
      have := List.length_filter_le p (its.take j)
      rw [List.length_take] at this
      omega)
    (fun acc M' ⟨q1, _⟩ => by
      subst q1
      show (match i.now (M1 ++ [.lst acc]) with | some l => decide (l.length = its.length) | none => false) = true
      rw [h2']
      simp)
    (fun j acc M' hj ⟨q1, q2⟩ => by
      subst q1
      have ex : its[j]? = some its[j] := List.getElem?_eq_getElem hj
      have it1 : i.item (M1 ++ [.lst acc]) its.length (its.length - j) = some its[j] := by
        show (match i.now (M1 ++ [.lst acc]) with | some l => if l.length = its.length then l[its.length - (its.length - j)]? else none | none => none) = _
        rw [h2']
        simp only [if_true]
        rw [show its.length - (its.length - j) = j by omega, ex]
      obtain ⟨s, b1, b2⟩ := h3 its[j] (List.getElem_mem hj) acc
      refine ⟨its[j], M1 ++ [.lst acc], it1, ?_⟩
      rcases b2 with ⟨b2, b3, b4⟩ | ⟨b2, b3⟩
      · right
        refine ⟨h its[j], by simp only [b1, b3, b4, Res.bind_ok, if_true], last_get _ _, by rw [last_set], ?_⟩
        rw [q2, List.take_add_one, ex, List.filter_append, List.map_append]
        simp [b2]
      · left
        refine ⟨by simp only [b1, b3, Res.bind_ok, Bool.false_eq_true, if_false], rfl, ?_⟩
        rw [q2, List.take_add_one, ex, List.filter_append, List.map_append]
        simp [b2])
  subst p1
  refine e1.trans ?_
  rw [p2, List.take_length]
theorem sumD_ints : ∀ l : List Int, sumD (l.map .int) = some l.sum
  | [] => rfl
  | n :: l => by
    simp only [List.map_cons, sumD, sumD_ints l, Option.map_some, List.sum_cons]
theorem sum_lst {M : Mem} {n : Nat} {l : List Int} (h : M[n]? = some (.lst (l.map .int))) : bfn .sum [.ref n] M = .ok (.int l.sum) M := by
  simp only [bfn, lstOf, listAt_of h, sumD_ints]
  rfl
theorem app_get (M l : Mem) (j : Nat) : (M ++ l)[M.length + j]? = l[j]? := by
  rw [List.getElem?_append_right (by omega)]
  congr 1
  omega
theorem app_set (M l : Mem) (j : Nat) (o : MO) : (M ++ l).set (M.length + j) o = M ++ l.set j o := by
  induction M with
  | nil => simp
  | cons a M ih =>
    show (a :: (M ++ l)).set (M.length + 1 + j) o = a :: (M ++ l.set j o)
    rw [show M.length + 1 + j = (M.length + j) + 1 by omega, List.set_cons_succ, ih]
theorem append_lst {M : Mem} {n : Nat} {l : List D} {d : D} (h : M[n]? = some (.lst l)) (hl : l.length < sizeLine) : mfn .append (.ref n) [d] M = .ok .non (M.set n (.lst (l ++ [d]))) := by
  simp only [mfn, h, if_pos hl]
theorem isL_of {M : Mem} {n : Nat} {l : List D} (h : M[n]? = some (.lst l)) : isL M (.ref n) = true := by
  simp only [isL, h]
end Mp

set_option Elab.async false
set_option linter.all false
set_option maxRecDepth 100000
set_option maxHeartbeats 4000000
set_option autoImplicit false
/-! repr and == of plain data. -/
namespace Mp
open PySem PySem.Spec L2
def Big (n : Int) : Prop := n.natAbs.log2 < 1920
/-- data that may be shown, of some width -/
structure Show (p : PyData) (n : Nat) : Prop where
  sh : p.showable = true
  lv : p.leavesShort 1921 = true
  bk : p.bulk ≤ n
  ok : ∀ k : Nat, 1114112 ≤ k → k ∉ p.shown.cps.toList
structure Shows (ps : List PyData) (n : Nat) : Prop where
  sh : PyData.showableAll ps = true
  lv : PyData.leavesShortAll 1921 ps = true
  bk : PyData.bulkAll ps ≤ n
  ok : ∀ k : Nat, 1114112 ≤ k → ∀ x ∈ ps, k ∉ x.shown.cps.toList
theorem Show.int {i : Int} (h : Big i) : Show (.int i) 0 := by
  refine ⟨decide_eq_true h, ?_, Nat.le_refl _, fun k hk => PyProof.Rows.shown_int_free' ⟨by omega, .inr (by omega)⟩ i⟩
  unfold PyData.leavesShort
  exact decide_eq_true (PyProof.Rows.int_text_len_1921 h)
theorem Shows.nil : Shows [] 0 := ⟨rfl, rfl, Nat.le_refl _, fun _ _ _ h => by cases h⟩
theorem Shows.cons {p : PyData} {ps : List PyData} {n m : Nat} (h : Show p n) (t : Shows ps m) : Shows (p :: ps) (n + 1 + m) := by
  refine ⟨?_, ?_, ?_, fun k hk x hx => ?_⟩
  · unfold PyData.showableAll; rw [h.sh, t.sh]; rfl
  · unfold PyData.leavesShortAll; rw [h.lv, t.lv]; rfl
  · unfold PyData.bulkAll; have := h.bk; have := t.bk; omega
  · rcases List.mem_cons.mp hx with rfl | hx
    · exact h.ok k hk
    · exact t.ok k hk x hx
theorem Shows.tup {ps : List PyData} {n : Nat} (t : Shows ps n) : Show (.tuple ps) n := by
  refine ⟨?_, ?_, ?_, fun k hk => ?_⟩
  · unfold PyData.showable; exact t.sh
  · unfold PyData.leavesShort; exact t.lv
  · unfold PyData.bulk; exact t.bk
  · have fr := PyProof.Rows.shownAll_free (t.ok k hk)
    intro hm
    rw [PyData.shown_tuple, PyProof.Rows.mem_cps_append, PyProof.Rows.mem_cps_append, PyProof.Rows.signs_lparen, PyProof.Rows.mem_join, PyProof.Rows.signs_tuple_end] at hm
    rcases hm with (hm | (⟨t', ht, hc⟩ | ⟨_, hm⟩)) | hm
    · simp at hm; omega
    · exact fr t' ht hc
    · rw [PyProof.Rows.signs_sep] at hm; simp at hm; omega
    · split at hm <;> simp at hm <;> omega
theorem Shows.lst {ps : List PyData} {n : Nat} (t : Shows ps n) : Show (.list ps) n := by
  refine ⟨?_, ?_, ?_, fun k hk => ?_⟩
  · unfold PyData.showable; exact t.sh
  · unfold PyData.leavesShort; exact t.lv
  · unfold PyData.bulk; exact t.bk
  · have fr := PyProof.Rows.shownAll_free (t.ok k hk)
    intro hm
    rw [PyData.shown_list, PyProof.Rows.mem_cps_append, PyProof.Rows.mem_cps_append, PyProof.Rows.signs_lbrack, PyProof.Rows.mem_join, PyProof.Rows.signs_rbrack] at hm
    rcases hm with (hm | (⟨t', ht, hc⟩ | ⟨_, hm⟩)) | hm
    · simp at hm; omega
    · exact fr t' ht hc
    · rw [PyProof.Rows.signs_sep] at hm; simp at hm; omega
    · simp at hm; omega
theorem Shows.more {ps : List PyData} {n m : Nat} (t : Shows ps n) (h : n ≤ m) : Shows ps m := ⟨t.sh, t.lv, Nat.le_trans t.bk h, t.ok⟩
theorem Shows.ints : ∀ {ns : List Int}, (∀ n ∈ ns, Big n) → Shows (ns.map .int) ns.length
  | [], _ => .nil
  | n :: ns, h => (Shows.cons (Show.int (h n List.mem_cons_self)) (Shows.ints fun x hx => h x (List.mem_cons_of_mem _ hx))).more (by simp; omega)
theorem Shows.map {α : Type} {f : α → PyData} {k : Nat} : ∀ {l : List α}, (∀ x ∈ l, Show (f x) k) → Shows (l.map f) ((k + 1) * l.length)
  | [], _ => .nil
  | x :: l, h => (Shows.cons (h x List.mem_cons_self) (Shows.map fun y hy => h y (List.mem_cons_of_mem _ hy))).more (by rw [List.length_cons, Nat.mul_succ]; omega)
theorem repr_ok {d : D} {M : Mem} {p : PyData} {n : Nat} (h : rd deep M d = some p) (s : Show p n) (hn : n ≤ 8000) : bfn .repr [d] M = .ok (.str p.shown) M := by
  have q := PyData.shown_le_bulk 1921 (by omega) p s.lv
  have hb := s.bk
  have h2 : p.shown.length ≤ sizeLine := by
    have : sizeLine = 16777216 := by decide
    rw [this]
    have : (1921 + 2) * p.bulk ≤ (1921 + 2) * 8000 := Nat.mul_le_mul_left _ (by omega)
    omega
  simp only [bfn, h, s.sh, Bool.true_and, decide_eq_true h2, if_true]
@[simp] theorem eqD_str (M : Mem) (x y : Str) (hx : PyData.canLay0 (.str x) = true) (hy : PyData.canLay0 (.str y) = true) : eqD M (.str x) (.str y) = some (x == y) := by
  simp [eqD, deep, rd, SeqAt.shaped, hx, hy, PyData.depth, PyData.eqv]
theorem Show.text {p : PyData} {n : Nat} (s : Show p n) : PyData.canLay0 (.str p.shown) = true := by
  unfold PyData.canLay0 PyData.strOk
  rw [Array.all_eq_true']
  intro k hk
  refine decide_eq_true ?_
  exact Nat.lt_of_not_le fun h => s.ok k h (by simpa using hk)
theorem eq_shown {p : PyData} {n : Nat} (s : Show p n) (M : Mem) : eqD M (.str p.shown) (.str p.shown) = some true := by
  rw [eqD_str M _ _ s.text s.text]
  simp
/-! ### sizes -/
theorem sum_abs {B : Nat} : ∀ {l : List Int}, (∀ x ∈ l, x.natAbs ≤ B) → l.sum.natAbs ≤ B * l.length
  | [], _ => by simp
  | x :: l, h => by
    have ih := sum_abs (B := B) (l := l) fun y hy => h y (List.mem_cons_of_mem _ hy)
    have hx := h x List.mem_cons_self
    have := Int.natAbs_add_le x l.sum
    rw [List.sum_cons, List.length_cons, Nat.mul_succ]
    omega
theorem big_of {n : Int} (h : n.natAbs < 2 ^ 1000) : Big n := by
  unfold Big
  by_cases h0 : n.natAbs = 0
  · rw [h0]; decide
  · have := (Nat.log2_lt h0).mpr h
    omega
end Mp

set_option Elab.async false
set_option linter.all false
set_option maxRecDepth 100000
set_option maxHeartbeats 4000000
set_option autoImplicit false
namespace Mp
open PySem PySem.Spec L2
theorem depth_ints : ∀ l : List Int, PyData.depthAll (l.map .int) = 0
  | [] => rfl
  | n :: l => by rw [List.map_cons]; unfold PyData.depthAll; rw [depth_ints l]; rfl
theorem shaped_list (l : List Int) : SeqAt.shaped (.list (l.map .int)) = true := by
  unfold SeqAt.shaped
  have h1 : (PyData.list (l.map .int)).canLay0 = true := by unfold PyData.canLay0; exact canLay_ints l
  have h2 : (PyData.list (l.map .int)).depth ≤ 64 := by unfold PyData.depth; rw [depth_ints]; decide
  rw [h1, decide_eq_true h2]; rfl
theorem rd_list {k : Nat} {M : Mem} {n : Nat} {l : List Int} (h : M[n]? = some (.lst (l.map .int))) : rd (k + 2) M (.ref n) = some (.list (l.map .int)) := by
  show (match listAt M n with | some l => (mapO (rd (k + 1) M) l).map PyData.list | none => none) = _
  rw [listAt_of h]
  simp only [rd_ints]
  rfl
theorem eq_nil {M : Mem} {a b : Nat} {l : List Int} (h1 : M[a]? = some (.lst (l.map .int))) (h2 : M[b]? = some (.lst [])) : eqD M (.ref a) (.ref b) = some l.isEmpty := by
  have q1 := rd_list (k := 38) h1
  have q2 := rd_list (k := 38) (l := []) h2
  have e : eqD M (.ref a) (.ref b) = match rd 40 M (.ref a), rd 40 M (.ref b) with
    | some x, some y => if SeqAt.shaped x && SeqAt.shaped y then some (PyData.eqv x y) else none
    | _, _ => none := rfl
  rw [e, q1, q2]
  simp only [shaped_list, Bool.and_self, if_true]
  cases l with
  | nil => rfl
  | cons n l => rfl
theorem mul_64 {a b : Int} (h1 : -(2 ^ 64) < a) (h2 : a < 2 ^ 64) : mulOk a b = true := decide_eq_true (.inl ⟨h1, h2⟩)
theorem log_lit {m : Int} (h : m ≤ 4294967296) (h0 : 0 < m) : m.natAbs.log2 < 9000 := by
  have : m.natAbs.log2 < 33 := (Nat.log2_lt (by omega)).mpr (by omega)
  omega
/-- what stays through a draw -/
structure Fr (d r : Nat) (M M' : Mem) : Prop where
  len : M.length ≤ M'.length
  get : ∀ j, j ≠ d → j ≠ r → j < M.length → M'[j]? = M[j]?
theorem Fr.rfl' {d r : Nat} {M : Mem} : Fr d r M M := ⟨Nat.le_refl _, fun _ _ _ _ => rfl⟩
theorem Fr.trans {d r : Nat} {M M1 M2 : Mem} (a : Fr d r M M1) (b : Fr d r M1 M2) : Fr d r M M2 := ⟨Nat.le_trans a.len b.len, fun j h1 h2 h3 => (b.get j h1 h2 (Nat.lt_of_lt_of_le h3 a.len)).trans (a.get j h1 h2 h3)⟩
theorem Fr.app {d r : Nat} {M N : Mem} : Fr d r M (M ++ N) := ⟨by simp, fun j _ _ h => List.getElem?_append_left h⟩
theorem Fr.setD {d r : Nat} {M : Mem} {o : MO} : Fr d r M (M.set d o) := ⟨by simp, fun j h1 _ _ => List.getElem?_set_ne (Ne.symm h1)⟩
theorem Fr.setR {d r : Nat} {M : Mem} {o : MO} : Fr d r M (M.set r o) := ⟨by simp, fun j _ h2 _ => List.getElem?_set_ne (Ne.symm h2)⟩
end Mp

set_option Elab.async false
set_option linter.all false
set_option maxRecDepth 100000
set_option maxHeartbeats 4000000
set_option autoImplicit false
namespace Mp
open PySem PySem.Spec L2
/-- a comprehension whose parts may write elsewhere -/
theorem lc_draw {G : Gl} {σ : S} {M M1 : Mem} {vs : List Nat} {t : Tg} {it : Itr} {ifs : Irs} {e : Ir} {i : It} {its : List D} (P : Nat → List D → Mem → Prop) (h1 : evi G it σ M = .ok i M1) (hnow : ∀ M, i.now M = some its) (hs : its.length ≤ 1000) (h0 : P 0 [] (M1 ++ [.lst []]))
    (hr : ∀ j acc M', P j acc M' → M'[M1.length]? = some (.lst acc) ∧ acc.length ≤ 1000)
    (st : ∀ (j : Nat) (x : D) acc M', its[j]? = some x → P j acc M' → ∃ s, bindT t x (wipeS σ vs) = some s ∧ ∃ b M3, evc G ifs s M' = .ok b M3 ∧ ((b = false ∧ P (j + 1) acc M3) ∨ (b = true ∧ ∃ y M4, ev G e s M3 = .ok y M4 ∧ M4[M1.length]? = some (.lst acc) ∧ P (j + 1) (acc ++ [y]) (M4.set M1.length (.lst (acc ++ [y])))))) :
    ∃ acc M', ev G (.lc vs t it ifs e) σ M = .ok (.ref M1.length) M' ∧ P its.length acc M' := by
  have h1000 : 1000 < sizeLine := by decide
  obtain ⟨acc, M', e1, p⟩ := lc_all (step := fun x M2 => match bindT t x (wipeS σ vs) with
        | none => .bad
        | some s => (evc G ifs s M2).bind fun b M3 => if b = true then (ev G e s M3).bind fun y M4 => .ok (some y) M4 else .ok none M3) (it := i) (N := its.length) (r := M1.length) (M := M1 ++ [.lst []]) P h0
    (fun j acc M' p => ⟨(hr j acc M' p).1, by have := (hr j acc M' p).2; omega⟩)
    (fun acc M' p => by
      show (match i.now M' with | some l => decide (l.length = its.length) | none => false) = true
      rw [hnow]; simp)
    (fun j acc M' hj p => by
      have ex : its[j]? = some its[j] := List.getElem?_eq_getElem hj
      have it1 : i.item M' its.length (its.length - j) = some its[j] := by
        show (match i.now M' with | some l => if l.length = its.length then l[its.length - (its.length - j)]? else none | none => none) = _
        rw [hnow]
        simp only [if_true]
        rw [show its.length - (its.length - j) = j by omega, ex]
      obtain ⟨s, b1, b, M3, b2, b3⟩ := st j its[j] acc M' ex p
      rcases b3 with ⟨rfl, p2⟩ | ⟨rfl, y, M4, b4, b5, p2⟩
      · exact ⟨its[j], M3, it1, .inl ⟨by simp only [b1, b2, Res.bind_ok, Bool.false_eq_true, if_false], p2⟩⟩
      · exact ⟨its[j], M4, it1, .inr ⟨y, by simp only [b1, b2, Res.bind_ok, if_true, b4], b5, p2⟩⟩)
  refine ⟨acc, M', ?_, p⟩
  simp only [ev, h1, Res.bind_ok, hnow]
  exact e1
theorem evc_nil {G : Gl} {s : S} {M : Mem} : evc G .nil s M = .ok true M := by simp only [evc]
theorem evc_one {G : Gl} {s : S} {M M1 : Mem} {c : Ir} {b : Bool} (h : ev G c s M = .ok (.bl b) M1) : evc G (.cons c .nil) s M = .ok b M1 := by
  simp only [evc, h, Res.bind_ok, tr_bl, Res.ofO_some]
  cases b <;> rfl
theorem Fr.set {d r j : Nat} {M M' : Mem} {o : MO} (f : Fr d r M M') (hj : M.length ≤ j) : Fr d r M (M'.set j o) := ⟨by rw [List.length_set]; exact f.len, fun i h1 h2 h3 => by rw [List.getElem?_set_ne (by omega), f.get i h1 h2 h3]⟩
theorem Fr.keep {d r j : Nat} {M M' : Mem} {o : MO} (f : Fr d r M M') (h : M[j]? = some o) (h1 : j ≠ d) (h2 : j ≠ r) : M'[j]? = some o := by
  rw [f.get j h1 h2 (List.getElem?_eq_some_iff.mp h).1, h]
theorem set_self {M : Mem} {j : Nat} {o u : MO} (h : M[j]? = some o) : (M.set j u)[j]? = some u := List.getElem?_set_self (List.getElem?_eq_some_iff.mp h).1
end Mp

set_option Elab.async false
set_option linter.all false
set_option maxRecDepth 100000
set_option maxHeartbeats 4000000
set_option autoImplicit false
namespace Mp
open PySem PySem.Spec L2
theorem wide_ok (n : Nat) (h : n ≤ 1000) : wide62 (n : Int) = true := by
  unfold wide62
  have h1 : -(2 ^ 62) ≤ (n : Int) := Int.le_trans (by decide) (Int.natCast_nonneg n)
  have h2 : (n : Int) < 2 ^ 62 := Int.lt_of_le_of_lt (Int.ofNat_le.mpr h) (by decide)
  exact decide_eq_true ⟨h1, h2⟩
theorem rng_of {n : Nat} (h : n ≤ 1000) : rangeOf [.int (n : Nat)] = some (rangeD 0 (n : Int)) := by
  simp only [rangeOf, wide_ok n h, if_true]
theorem rng_of2 {m n : Nat} (hm : m ≤ 1000) (h : n ≤ 1000) : rangeOf [.int (m : Nat), .int (n : Nat)] = some (rangeD (m : Int) (n : Int)) := by
  simp only [rangeOf, wide_ok n h, wide_ok m hm, Bool.and_self, if_true]
theorem evi_rngs {G : Gl} {σ : S} {M M1 : Mem} {l : Irs} {ds R : List D} (h : evs G l σ M = .ok ds M1) (hr : rangeOf ds = some R) : evi G (.rng l) σ M = .ok (.one (.snap R)) M1 := by
  have e2 : evi G (.rng l) σ M = (evs G l σ M).bind fun ds M1 => Res.ofO ((rangeOf ds).map fun r => .one (.snap r)) M1 := by simp only [evi]
  rw [e2, h, Res.bind_ok, hr]
  rfl
theorem rng_has {n : Nat} (h : n ≤ 1000) : ∃ R : List D, rangeOf [.int (n : Nat)] = some R ∧ R.length = n ∧ ∀ (i : Nat) (x : D), R[i]? = some x → i < n ∧ x = .int (i : Nat) := by
  refine ⟨_, rng_of h, by unfold rangeD; simp, fun i x e => ?_⟩
  unfold rangeD at e
  rw [List.getElem?_map] at e
  obtain ⟨j, e1, rfl⟩ := Option.map_eq_some_iff.mp e
  obtain ⟨h1, h2⟩ := List.getElem?_eq_some_iff.mp e1
  simp at h1 h2
  exact ⟨by omega, by rw [← h2]; simp⟩
theorem rng_has2 {m n : Nat} (hm : m ≤ n) (h : n ≤ 1000) : ∃ R : List D, rangeOf [.int (m : Nat), .int (n : Nat)] = some R ∧ R.length = n - m ∧ ∀ (i : Nat) (x : D), R[i]? = some x → m + i < n ∧ x = .int ((m + i : Nat) : Int) := by
  refine ⟨_, rng_of2 (by omega) h, by unfold rangeD; simp, fun i x e => ?_⟩
  unfold rangeD at e
  rw [List.getElem?_map] at e
  obtain ⟨j, e1, rfl⟩ := Option.map_eq_some_iff.mp e
  obtain ⟨h1, h2⟩ := List.getElem?_eq_some_iff.mp e1
  simp at h1 h2
  exact ⟨by omega, by rw [← h2]; simp⟩
end Mp

set_option Elab.async false
set_option linter.all false
set_option maxRecDepth 100000
set_option maxHeartbeats 4000000
set_option autoImplicit false
namespace Mp.K07
open PySem PySem.Spec
def topS (i : Nat) : Stmt := PySem.Challenge.pw_carrynet_k07_arrivals_carries_states.main.body.getD i (.Pass ⟨0, 0, 0, 0⟩)
def r_is_integer : Row := ⟨"is_integer", topS 10, ["value"], ["value"]⟩
def r_is_between : Row := ⟨"is_between", topS 11, ["value", "least", "greatest"], ["value", "least", "greatest"]⟩
def r_is_tuple_of : Row := ⟨"is_tuple_of", topS 12, ["value", "many"], ["value", "many"]⟩
def r_is_counter : Row := ⟨"is_counter", topS 13, ["value", "many"], ["value", "many"]⟩
def r_is_wire : Row := ⟨"is_wire", topS 14, ["value", "many", "origin", "target", "weight"], ["value", "many"]⟩
def r_moduli_fault : Row := ⟨"moduli_fault", topS 15, ["moduli", "index", "modulus"], ["moduli"]⟩
def r_wires_fault : Row := ⟨"wires_fault", topS 16, ["wires", "many", "before", "index", "wire"], ["wires", "many"]⟩
def r_inputs_fault : Row := ⟨"inputs_fault", topS 17, ["inputs", "many", "before", "index", "counter"], ["inputs", "many"]⟩
def r_net_fault : Row := ⟨"net_fault", topS 18, ["value", "moduli", "wires", "inputs", "fault", "many"], ["value"]⟩
def r_validate_net : Row := ⟨"validate_net", topS 19, ["net", "fault", "part", "index"], ["net"]⟩
def r_phases_fault : Row := ⟨"phases_fault", topS 20, ["net", "value", "moduli", "index", "phase"], ["net", "value"]⟩
def r_check_phases : Row := ⟨"check_phases", topS 21, ["net", "value", "fault"], ["net", "value"]⟩
def r_validate_phases : Row := ⟨"validate_phases", topS 22, ["net", "phases"], ["net", "phases"]⟩
def r_ticks_fault : Row := ⟨"ticks_fault", topS 24, ["net", "value", "moduli", "_", "inputs", "index", "entry"], ["net", "value"]⟩
def r_check_ticks : Row := ⟨"check_ticks", topS 25, ["net", "value", "fault"], ["net", "value"]⟩
def r_all_arrivals : Row := ⟨"all_arrivals", topS 26, ["net", "phases", "ticks", "moduli", "wires", "_", "arrived", "origin", "target", "weight"], ["net", "phases", "ticks"]⟩
def r_effect : Row := ⟨"effect", topS 27, ["net", "phases", "ticks", "arrived", "sums", "carried", "state", ".0", "phase", "count", "total", "modulus"], ["net", "phases", "ticks"]⟩
def r_validate_ticks : Row := ⟨"validate_ticks", topS 28, ["net", "phases", "ticks"], ["net", "phases", "ticks"]⟩
def r_arrivals : Row := ⟨"arrivals", topS 29, ["net", "phases", "ticks"], ["net", "phases", "ticks"]⟩
def r_carries : Row := ⟨"carries", topS 30, ["net", "phases", "ticks"], ["net", "phases", "ticks"]⟩
def r_after : Row := ⟨"after", topS 31, ["net", "phases", "ticks"], ["net", "phases", "ticks"]⟩
def r__law_mixed : Row := ⟨"_law_mixed", topS 33, ["number", "k", "out"], ["number", "k"]⟩
def r__law_state : Row := ⟨"_law_state", topS 34, ["script", ".0", "cell"], ["script"]⟩
def r__law_next : Row := ⟨"_law_next", topS 35, ["dice", "great", "number", "cells", "at", "cell"], ["dice"]⟩
def r__law_weight : Row := ⟨"_law_weight", topS 38, ["n", "weight"], ["n"]⟩
def r__law_web : Row := ⟨"_law_web", topS 39, ["dice", "most", "high", "many", "moduli", "wires", "v", "n", "u", "some", ".0"], ["dice", "most", "high"]⟩
def r__law_now : Row := ⟨"_law_now", topS 40, ["dice", "web", ".0", "size"], ["dice", "web"]⟩
def r__law_pushes : Row := ⟨"_law_pushes", topS 41, ["dice", "web", "found", "v", "n", "far"], ["dice", "web"]⟩
def r__law_pushed : Row := ⟨"_law_pushed", topS 42, ["web", "now", "pushes", "arrived", "carried", "later", "v", "size", "many", ".0", "u", "x", "weight"], ["web", "now", "pushes"]⟩
def r__law_right : Row := ⟨"_law_right", topS 43, ["web", "now", "pushes", "kept", "due", "found", "again", "v", "size"], ["web", "now", "pushes"]⟩
def r_law : Row := ⟨"law", topS 44, ["script", "dice", "turn", "web", "now", "none", "nth"], ["script"]⟩
def rows : List Row := [r_is_integer, r_is_between, r_is_tuple_of, r_is_counter, r_is_wire, r_moduli_fault, r_wires_fault, r_inputs_fault, r_net_fault, r_validate_net, r_phases_fault, r_check_phases, r_validate_phases, r_ticks_fault, r_check_ticks, r_all_arrivals, r_effect, r_validate_ticks, r_arrivals, r_carries, r_after, r__law_mixed, r__law_state, r__law_next, r__law_weight, r__law_web, r__law_now, r__law_pushes, r__law_pushed, r__law_right, r_law]
def cs : List (Str × Int) := [("MOST_COUNTERS", 10), ("MOST_MODULUS", 1000), ("MOST_WEIGHT", 100), ("MOST_TICKS", 10000000000000000000000000000000000000000)]
theorem rows_ok : rows.all Row.ok = true := by decide +kernel
def k0 : Nat := 30
def L0 : Nat := 100000
def fns : Str → Option Fn := fnsOf' rows
def glob : Str → Option D := globOf cs
end Mp.K07

set_option Elab.async false
set_option linter.all false
set_option maxRecDepth 100000
set_option maxHeartbeats 4000000
set_option autoImplicit false
namespace Mp.K07
open PySem PySem.Spec
def g (k : Nat) : Gl := ⟨fun f => (fns f).isSome, glob, callF glob L0 fns k, L0⟩
theorem call_of {k : Nat} {f : Str} {F : Fn} (h : fns f = some F) (ds : List D) (kw : List (Str × D)) (M : Mem) : callF glob L0 fns (k + 1) f ds kw M = match bindArg F.ps ds kw with
    | none => .bad
    | some vs => ran (xss (g k) F.body (startS F.n vs) M) := by
  simp only [callF, h]
  cases bindArg F.ps ds kw <;> rfl
@[simp] theorem g_call (k : Nat) (f : Str) (ds : List D) (kw : List (Str × D)) (M : Mem) : (g k).call f ds kw M = callF glob L0 fns k f ds kw M := rfl
def b_is_integer : Sms := (.cons (.ret (.an (.isi (.v 0) ["int"]) (.nt (.isi (.v 0) ["bool"])))) .nil)
theorem f_is_integer : fns "is_integer" = some ⟨["value"], 1, b_is_integer⟩ := by kernel_rfl
@[simp] theorem k_is_integer (k : Nat) : (g k).known "is_integer" = true := by
  show (fns "is_integer").isSome = true
  rw [f_is_integer]; rfl
def b_is_between : Sms := (.cons (.ret (.an (.call "is_integer" (.cons (.v 0) .nil) [] .nil) (.chn .le .le (.v 1) (.v 0) (.v 2)))) .nil)
theorem f_is_between : fns "is_between" = some ⟨["value", "least", "greatest"], 3, b_is_between⟩ := by kernel_rfl
@[simp] theorem k_is_between (k : Nat) : (g k).known "is_between" = true := by
  show (fns "is_between").isSome = true
  rw [f_is_between]; rfl
def b_is_tuple_of : Sms := (.cons (.ret (.an (.isi (.v 0) ["tuple"]) (.cmp .eq (.blt .len (.cons (.v 0) .nil)) (.v 1)))) .nil)
theorem f_is_tuple_of : fns "is_tuple_of" = some ⟨["value", "many"], 2, b_is_tuple_of⟩ := by kernel_rfl
@[simp] theorem k_is_tuple_of (k : Nat) : (g k).known "is_tuple_of" = true := by
  show (fns "is_tuple_of").isSome = true
  rw [f_is_tuple_of]; rfl
def b_is_counter : Sms := (.cons (.ret (.call "is_between" (.cons (.v 0) (.cons (.c (.int (0))) (.cons (.bin .sub (.v 1) (.c (.int (1)))) .nil))) [] .nil)) .nil)
theorem f_is_counter : fns "is_counter" = some ⟨["value", "many"], 2, b_is_counter⟩ := by kernel_rfl
@[simp] theorem k_is_counter (k : Nat) : (g k).known "is_counter" = true := by
  show (fns "is_counter").isSome = true
  rw [f_is_counter]; rfl
def b_is_wire : Sms := (.cons (.iff (.nt (.call "is_tuple_of" (.cons (.v 0) (.cons (.c (.int (3))) .nil)) [] .nil)) (.cons (.ret (.c (.bl false))) .nil) .nil) (.cons (.set (.t (.t [2, 3, 4])) (.v 0)) (.cons (.iff (.orr (.nt (.call "is_counter" (.cons (.v 2) (.cons (.v 1) .nil)) [] .nil)) (.nt (.call "is_counter" (.cons (.v 3) (.cons (.v 1) .nil)) [] .nil))) (.cons (.ret (.c (.bl false))) .nil) .nil) (.cons (.ret (.an (.cmp .lt (.v 2) (.v 3)) (.an (.call "is_between" (.cons (.v 4) (.cons (.neg (.g "MOST_WEIGHT")) (.cons (.g "MOST_WEIGHT") .nil))) [] .nil) (.cmp .ne (.v 4) (.c (.int (0))))))) .nil))))
theorem f_is_wire : fns "is_wire" = some ⟨["value", "many"], 5, b_is_wire⟩ := by kernel_rfl
@[simp] theorem k_is_wire (k : Nat) : (g k).known "is_wire" = true := by
  show (fns "is_wire").isSome = true
  rw [f_is_wire]; rfl
def b_moduli_fault : Sms := (.cons (.iff (.orr (.nt (.isi (.v 0) ["tuple"])) (.nt (.chn .le .le (.c (.int (1))) (.blt .len (.cons (.v 0) .nil)) (.g "MOST_COUNTERS")))) (.cons (.ret (.tup (.cons (.c (.str "moduli")) (.cons (.c .non) .nil)))) .nil) .nil) (.cons (.fr (.t [1, 2]) (.enum (.v 0)) (.cons (.iff (.nt (.call "is_between" (.cons (.v 2) (.cons (.c (.int (2))) (.cons (.g "MOST_MODULUS") .nil))) [] .nil)) (.cons (.ret (.tup (.cons (.c (.str "moduli")) (.cons (.v 1) .nil)))) .nil) .nil) .nil)) (.cons (.ret (.c .non)) .nil)))
theorem f_moduli_fault : fns "moduli_fault" = some ⟨["moduli"], 3, b_moduli_fault⟩ := by kernel_rfl
@[simp] theorem k_moduli_fault (k : Nat) : (g k).known "moduli_fault" = true := by
  show (fns "moduli_fault").isSome = true
  rw [f_moduli_fault]; rfl
def b_wires_fault : Sms := (.cons (.iff (.nt (.isi (.v 0) ["tuple"])) (.cons (.ret (.tup (.cons (.c (.str "wires")) (.cons (.c .non) .nil)))) .nil) .nil) (.cons (.set (.t (.n 2)) (.tup (.cons (.neg (.c (.int (1)))) (.cons (.neg (.c (.int (1)))) .nil)))) (.cons (.fr (.t [3, 4]) (.enum (.v 0)) (.cons (.iff (.orr (.nt (.call "is_wire" (.cons (.v 4) (.cons (.v 1) .nil)) [] .nil)) (.cmp .le (.slc (.v 4) .non (.som (.c (.int (2))))) (.v 2))) (.cons (.ret (.tup (.cons (.c (.str "wires")) (.cons (.v 3) .nil)))) .nil) .nil) (.cons (.set (.t (.n 2)) (.slc (.v 4) .non (.som (.c (.int (2)))))) .nil))) (.cons (.ret (.c .non)) .nil))))
theorem f_wires_fault : fns "wires_fault" = some ⟨["wires", "many"], 5, b_wires_fault⟩ := by kernel_rfl
@[simp] theorem k_wires_fault (k : Nat) : (g k).known "wires_fault" = true := by
  show (fns "wires_fault").isSome = true
  rw [f_wires_fault]; rfl
def b_inputs_fault : Sms := (.cons (.iff (.nt (.isi (.v 0) ["tuple"])) (.cons (.ret (.tup (.cons (.c (.str "inputs")) (.cons (.c .non) .nil)))) .nil) .nil) (.cons (.set (.t (.n 2)) (.neg (.c (.int (1))))) (.cons (.fr (.t [3, 4]) (.enum (.v 0)) (.cons (.iff (.orr (.nt (.call "is_counter" (.cons (.v 4) (.cons (.v 1) .nil)) [] .nil)) (.cmp .le (.v 4) (.v 2))) (.cons (.ret (.tup (.cons (.c (.str "inputs")) (.cons (.v 3) .nil)))) .nil) .nil) (.cons (.set (.t (.n 2)) (.v 4)) .nil))) (.cons (.ret (.c .non)) .nil))))
theorem f_inputs_fault : fns "inputs_fault" = some ⟨["inputs", "many"], 5, b_inputs_fault⟩ := by kernel_rfl
@[simp] theorem k_inputs_fault (k : Nat) : (g k).known "inputs_fault" = true := by
  show (fns "inputs_fault").isSome = true
  rw [f_inputs_fault]; rfl
def b_net_fault : Sms := (.cons (.iff (.nt (.call "is_tuple_of" (.cons (.v 0) (.cons (.c (.int (3))) .nil)) [] .nil)) (.cons (.ret (.tup (.cons (.c (.str "form")) (.cons (.c .non) .nil)))) .nil) .nil) (.cons (.set (.t (.t [1, 2, 3])) (.v 0)) (.cons (.set (.t (.n 4)) (.call "moduli_fault" (.cons (.v 1) .nil) [] .nil)) (.cons (.iff (.cmp .isn (.v 4) (.c .non)) (.cons (.ret (.v 4)) .nil) .nil) (.cons (.set (.t (.n 5)) (.blt .len (.cons (.v 1) .nil))) (.cons (.ret (.orr (.call "wires_fault" (.cons (.v 2) (.cons (.v 5) .nil)) [] .nil) (.call "inputs_fault" (.cons (.v 3) (.cons (.v 5) .nil)) [] .nil))) .nil))))))
theorem f_net_fault : fns "net_fault" = some ⟨["value"], 6, b_net_fault⟩ := by kernel_rfl
@[simp] theorem k_net_fault (k : Nat) : (g k).known "net_fault" = true := by
  show (fns "net_fault").isSome = true
  rw [f_net_fault]; rfl
def b_validate_net : Sms := (.cons (.set (.t (.n 1)) (.call "net_fault" (.cons (.v 0) .nil) [] .nil)) (.cons (.iff (.cmp .isn (.v 1) (.c .non)) (.cons (.set (.t (.t [2, 3])) (.v 1)) (.cons .bad .nil)) .nil) .nil))
theorem f_validate_net : fns "validate_net" = some ⟨["net"], 4, b_validate_net⟩ := by kernel_rfl
@[simp] theorem k_validate_net (k : Nat) : (g k).known "validate_net" = true := by
  show (fns "validate_net").isSome = true
  rw [f_validate_net]; rfl
def b_phases_fault : Sms := (.cons (.set (.t (.n 2)) (.idx (.v 0) (.c (.int (0))))) (.cons (.iff (.nt (.call "is_tuple_of" (.cons (.v 1) (.cons (.blt .len (.cons (.v 2) .nil)) .nil)) [] .nil)) (.cons (.ret (.tup (.cons (.c .non) .nil))) .nil) .nil) (.cons (.fr (.t [3, 4]) (.enum (.v 1)) (.cons (.iff (.nt (.call "is_between" (.cons (.v 4) (.cons (.c (.int (0))) (.cons (.bin .sub (.idx (.v 2) (.v 3)) (.c (.int (1)))) .nil))) [] .nil)) (.cons (.ret (.tup (.cons (.v 3) .nil))) .nil) .nil) .nil)) (.cons (.ret (.c .non)) .nil))))
theorem f_phases_fault : fns "phases_fault" = some ⟨["net", "value"], 5, b_phases_fault⟩ := by kernel_rfl
@[simp] theorem k_phases_fault (k : Nat) : (g k).known "phases_fault" = true := by
  show (fns "phases_fault").isSome = true
  rw [f_phases_fault]; rfl
def b_check_phases : Sms := (.cons (.set (.t (.n 2)) (.call "phases_fault" (.cons (.v 0) (.cons (.v 1) .nil)) [] .nil)) (.cons (.iff (.cmp .isn (.v 2) (.c .non)) (.cons .bad .nil) .nil) .nil))
theorem f_check_phases : fns "check_phases" = some ⟨["net", "value"], 3, b_check_phases⟩ := by kernel_rfl
@[simp] theorem k_check_phases (k : Nat) : (g k).known "check_phases" = true := by
  show (fns "check_phases").isSome = true
  rw [f_check_phases]; rfl
def b_validate_phases : Sms := (.cons (.ex (.call "validate_net" (.cons (.v 0) .nil) [] .nil)) (.cons (.ex (.call "check_phases" (.cons (.v 0) (.cons (.v 1) .nil)) [] .nil)) .nil))
theorem f_validate_phases : fns "validate_phases" = some ⟨["net", "phases"], 2, b_validate_phases⟩ := by kernel_rfl
@[simp] theorem k_validate_phases (k : Nat) : (g k).known "validate_phases" = true := by
  show (fns "validate_phases").isSome = true
  rw [f_validate_phases]; rfl
def b_ticks_fault : Sms := (.cons (.set (.t (.t [2, 3, 4])) (.v 0)) (.cons (.iff (.nt (.call "is_tuple_of" (.cons (.v 1) (.cons (.blt .len (.cons (.v 2) .nil)) .nil)) [] .nil)) (.cons (.ret (.tup (.cons (.c .non) .nil))) .nil) .nil) (.cons (.fr (.t [5, 6]) (.enum (.v 1)) (.cons (.iff (.orr (.nt (.call "is_between" (.cons (.v 6) (.cons (.neg (.g "MOST_TICKS")) (.cons (.g "MOST_TICKS") .nil))) [] .nil)) (.an (.cmp .ne (.v 6) (.c (.int (0)))) (.cmp .notin (.v 5) (.v 4)))) (.cons (.ret (.tup (.cons (.v 5) .nil))) .nil) .nil) .nil)) (.cons (.ret (.c .non)) .nil))))
theorem f_ticks_fault : fns "ticks_fault" = some ⟨["net", "value"], 7, b_ticks_fault⟩ := by kernel_rfl
@[simp] theorem k_ticks_fault (k : Nat) : (g k).known "ticks_fault" = true := by
  show (fns "ticks_fault").isSome = true
  rw [f_ticks_fault]; rfl
def b_check_ticks : Sms := (.cons (.set (.t (.n 2)) (.call "ticks_fault" (.cons (.v 0) (.cons (.v 1) .nil)) [] .nil)) (.cons (.iff (.cmp .isn (.v 2) (.c .non)) (.cons .bad .nil) .nil) .nil))
theorem f_check_ticks : fns "check_ticks" = some ⟨["net", "value"], 3, b_check_ticks⟩ := by kernel_rfl
@[simp] theorem k_check_ticks (k : Nat) : (g k).known "check_ticks" = true := by
  show (fns "check_ticks").isSome = true
  rw [f_check_ticks]; rfl
def b_all_arrivals : Sms := (.cons (.set (.t (.t [3, 4, 5])) (.v 0)) (.cons (.set (.t (.n 6)) (.blt .list (.cons (.v 2) .nil))) (.cons (.fr (.t [7, 8, 9]) (.e (.v 4)) (.cons (.augs (.v 6) (.v 8) .add (.bin .mul (.v 9) (.bin .fdiv (.bin .add (.idx (.v 1) (.v 7)) (.idx (.v 6) (.v 7))) (.idx (.v 3) (.v 7))))) .nil)) (.cons (.ret (.blt .tuple (.cons (.v 6) .nil))) .nil))))
theorem f_all_arrivals : fns "all_arrivals" = some ⟨["net", "phases", "ticks"], 10, b_all_arrivals⟩ := by kernel_rfl
@[simp] theorem k_all_arrivals (k : Nat) : (g k).known "all_arrivals" = true := by
  show (fns "all_arrivals").isSome = true
  rw [f_all_arrivals]; rfl
def b_effect : Sms := (.cons (.set (.t (.n 3)) (.call "all_arrivals" (.cons (.v 0) (.cons (.v 1) (.cons (.v 2) .nil))) [] .nil)) (.cons (.set (.t (.n 4)) (.lc [7, 8, 9] (.t [8, 9]) (.zip (.v 1) (.v 3)) .nil (.bin .add (.v 8) (.v 9)))) (.cons (.set (.t (.n 5)) (.blt .tuple (.cons (.lc [7, 10, 11] (.t [10, 11]) (.zip (.v 4) (.idx (.v 0) (.c (.int (0))))) .nil (.bin .fdiv (.v 10) (.v 11))) .nil))) (.cons (.set (.t (.n 6)) (.blt .tuple (.cons (.lc [7, 10, 11] (.t [10, 11]) (.zip (.v 4) (.idx (.v 0) (.c (.int (0))))) .nil (.bin .mod (.v 10) (.v 11))) .nil))) (.cons (.ret (.tup (.cons (.v 5) (.cons (.v 6) .nil)))) .nil)))))
theorem f_effect : fns "effect" = some ⟨["net", "phases", "ticks"], 12, b_effect⟩ := by kernel_rfl
@[simp] theorem k_effect (k : Nat) : (g k).known "effect" = true := by
  show (fns "effect").isSome = true
  rw [f_effect]; rfl
def b_validate_ticks : Sms := (.cons (.ex (.call "validate_phases" (.cons (.v 0) (.cons (.v 1) .nil)) [] .nil)) (.cons (.ex (.call "check_ticks" (.cons (.v 0) (.cons (.v 2) .nil)) [] .nil)) .nil))
theorem f_validate_ticks : fns "validate_ticks" = some ⟨["net", "phases", "ticks"], 3, b_validate_ticks⟩ := by kernel_rfl
@[simp] theorem k_validate_ticks (k : Nat) : (g k).known "validate_ticks" = true := by
  show (fns "validate_ticks").isSome = true
  rw [f_validate_ticks]; rfl
def b_arrivals : Sms := (.cons (.ex (.call "validate_ticks" (.cons (.v 0) (.cons (.v 1) (.cons (.v 2) .nil))) [] .nil)) (.cons (.ret (.call "all_arrivals" (.cons (.v 0) (.cons (.v 1) (.cons (.v 2) .nil))) [] .nil)) .nil))
theorem f_arrivals : fns "arrivals" = some ⟨["net", "phases", "ticks"], 3, b_arrivals⟩ := by kernel_rfl
@[simp] theorem k_arrivals (k : Nat) : (g k).known "arrivals" = true := by
  show (fns "arrivals").isSome = true
  rw [f_arrivals]; rfl
def b_carries : Sms := (.cons (.ex (.call "validate_ticks" (.cons (.v 0) (.cons (.v 1) (.cons (.v 2) .nil))) [] .nil)) (.cons (.ret (.idx (.call "effect" (.cons (.v 0) (.cons (.v 1) (.cons (.v 2) .nil))) [] .nil) (.c (.int (0))))) .nil))
theorem f_carries : fns "carries" = some ⟨["net", "phases", "ticks"], 3, b_carries⟩ := by kernel_rfl
@[simp] theorem k_carries (k : Nat) : (g k).known "carries" = true := by
  show (fns "carries").isSome = true
  rw [f_carries]; rfl
def b_after : Sms := (.cons (.ex (.call "validate_ticks" (.cons (.v 0) (.cons (.v 1) (.cons (.v 2) .nil))) [] .nil)) (.cons (.ret (.idx (.call "effect" (.cons (.v 0) (.cons (.v 1) (.cons (.v 2) .nil))) [] .nil) (.c (.int (1))))) .nil))
theorem f_after : fns "after" = some ⟨["net", "phases", "ticks"], 3, b_after⟩ := by kernel_rfl
@[simp] theorem k_after (k : Nat) : (g k).known "after" = true := by
  show (fns "after").isSome = true
  rw [f_after]; rfl
def b__law_mixed : Sms := (.cons (.set (.t (.n 2)) (.bin .mod (.bin .mul (.bin .add (.bin .add (.bin .add (.bin .mod (.v 0) (.c (.int (2147483647)))) (.bin .mul (.bin .mul (.c (.int (7919))) (.v 1)) (.v 1))) (.bin .mul (.c (.int (31))) (.v 1))) (.c (.int (5)))) (.c (.int (48271)))) (.c (.int (2147483647))))) (.cons (.ret (.bin .fdiv (.bin .mod (.bin .mul (.v 2) (.c (.int (69621)))) (.c (.int (2147483629)))) (.c (.int (64))))) .nil))
theorem f__law_mixed : fns "_law_mixed" = some ⟨["number", "k"], 3, b__law_mixed⟩ := by kernel_rfl
@[simp] theorem k__law_mixed (k : Nat) : (g k).known "_law_mixed" = true := by
  show (fns "_law_mixed").isSome = true
  rw [f__law_mixed]; rfl
def b__law_state : Sms := (.cons (.ret (.dct ["cells", "great", "at"] (.cons (.slc (.v 0) .non (.som (.c (.int (63))))) (.cons (.lc [1, 2] (.n 2) (.e (.slc (.v 0) .non (.som (.c (.int (63)))))) (.cons (.cmp .ge (.v 2) (.bin .pow (.c (.int (10))) (.c (.int (18))))) .nil) (.v 2)) (.cons (.c (.int (0))) .nil))))) .nil)
theorem f__law_state : fns "_law_state" = some ⟨["script"], 3, b__law_state⟩ := by kernel_rfl
@[simp] theorem k__law_state (k : Nat) : (g k).known "_law_state" = true := by
  show (fns "_law_state").isSome = true
  rw [f__law_state]; rfl
def b__law_next : Sms := (.cons (.augs (.v 0) (.c (.str "at")) .add (.c (.int (1)))) (.cons (.set (.t (.n 1)) (.idx (.v 0) (.c (.str "great")))) (.cons (.whl (.an (.cmp .ne (.v 1) (.lst .nil)) (.cmp .eq (.idx (.v 1) (.c (.int (0)))) (.c (.int (0))))) (.cons (.ex (.mth .popAt (.v 1) (.cons (.c (.int (0))) .nil))) .nil)) (.cons (.iff (.cmp .ne (.v 1) (.lst .nil)) (.cons (.set (.t (.n 2)) (.bin .mod (.idx (.v 1) (.c (.int (0)))) (.c (.int (65536))))) (.cons (.set (.sub (.v 1) (.c (.int (0)))) (.bin .fdiv (.idx (.v 1) (.c (.int (0)))) (.c (.int (65536))))) (.cons (.ret (.v 2)) .nil))) .nil) (.cons (.set (.t (.t [3, 4])) (.tup (.cons (.idx (.v 0) (.c (.str "cells"))) (.cons (.idx (.v 0) (.c (.str "at"))) .nil)))) (.cons (.set (.t (.n 5)) (.ite (.cmp .ne (.v 3) (.lst .nil)) (.idx (.v 3) (.bin .mod (.v 4) (.blt .len (.cons (.v 3) .nil)))) (.c (.int (0))))) (.cons (.ret (.bin .mod (.call "_law_mixed" (.cons (.call "_law_mixed" (.cons (.bin .add (.v 5) (.bin .mul (.c (.int (7919))) (.v 4))) (.cons (.bin .mod (.v 4) (.c (.int (1000)))) .nil)) [] .nil) (.cons (.c (.int (3))) .nil)) [] .nil) (.c (.int (65536))))) .nil)))))))
theorem f__law_next : fns "_law_next" = some ⟨["dice"], 6, b__law_next⟩ := by kernel_rfl
@[simp] theorem k__law_next (k : Nat) : (g k).known "_law_next" = true := by
  show (fns "_law_next").isSome = true
  rw [f__law_next]; rfl
def b__law_weight : Sms := (.cons (.set (.t (.n 1)) (.idx (.lst (.cons (.bin .sub (.bin .mod (.bin .fdiv (.v 0) (.c (.int (4)))) (.c (.int (7)))) (.c (.int (3)))) (.cons (.bin .sub (.bin .mod (.bin .fdiv (.v 0) (.c (.int (4)))) (.c (.int (7)))) (.c (.int (3)))) (.cons (.bin .sub (.bin .mod (.bin .fdiv (.v 0) (.c (.int (4)))) (.c (.int (3)))) (.c (.int (1)))) (.cons (.bin .sub (.bin .mod (.bin .fdiv (.v 0) (.c (.int (4)))) (.c (.int (201)))) (.c (.int (100)))) .nil))))) (.bin .mod (.v 0) (.c (.int (4)))))) (.cons (.ret (.ite (.cmp .ne (.v 1) (.c (.int (0)))) (.v 1) (.c (.int (1))))) .nil))
theorem f__law_weight : fns "_law_weight" = some ⟨["n"], 2, b__law_weight⟩ := by kernel_rfl
@[simp] theorem k__law_weight (k : Nat) : (g k).known "_law_weight" = true := by
  show (fns "_law_weight").isSome = true
  rw [f__law_weight]; rfl
def b__law_web : Sms := (.cons (.set (.t (.t [3, 4, 5])) (.tup (.cons (.bin .add (.c (.int (1))) (.bin .mod (.call "_law_next" (.cons (.v 0) .nil) [] .nil) (.v 1))) (.cons (.lst .nil) (.cons (.lst .nil) .nil))))) (.cons (.fr (.n 6) (.rng (.cons (.v 3) .nil)) (.cons (.set (.t (.n 7)) (.call "_law_next" (.cons (.v 0) .nil) [] .nil)) (.cons (.ex (.mth .append (.v 4) (.cons (.bin .add (.c (.int (2))) (.idx (.lst (.cons (.bin .mod (.bin .fdiv (.v 7) (.c (.int (3)))) (.c (.int (3)))) (.cons (.bin .mod (.bin .fdiv (.v 7) (.c (.int (3)))) (.c (.int (9)))) (.cons (.bin .mod (.bin .fdiv (.v 7) (.c (.int (3)))) (.bin .sub (.v 2) (.c (.int (1))))) .nil)))) (.bin .mod (.v 7) (.c (.int (3)))))) .nil))) .nil))) (.cons (.fr (.n 8) (.rng (.cons (.v 3) .nil)) (.cons (.fr (.n 6) (.rng (.cons (.bin .add (.v 8) (.c (.int (1)))) (.cons (.v 3) .nil))) (.cons (.iff (.cmp .lt (.bin .mod (.call "_law_next" (.cons (.v 0) .nil) [] .nil) (.c (.int (5)))) (.c (.int (2)))) (.cons (.ex (.mth .append (.v 5) (.cons (.tup (.cons (.v 8) (.cons (.v 6) (.cons (.call "_law_weight" (.cons (.call "_law_next" (.cons (.v 0) .nil) [] .nil) .nil) [] .nil) .nil)))) .nil))) .nil) .nil) .nil)) .nil)) (.cons (.set (.t (.n 9)) (.lc [10, 6] (.n 6) (.rng (.cons (.v 3) .nil)) (.cons (.cmp .gt (.bin .mod (.call "_law_next" (.cons (.v 0) .nil) [] .nil) (.c (.int (3)))) (.c (.int (0)))) .nil) (.v 6))) (.cons (.ret (.tup (.cons (.blt .tuple (.cons (.v 4) .nil)) (.cons (.blt .tuple (.cons (.v 5) .nil)) (.cons (.blt .tuple (.cons (.v 9) .nil)) .nil))))) .nil)))))
theorem f__law_web : fns "_law_web" = some ⟨["dice", "most", "high"], 11, b__law_web⟩ := by kernel_rfl
@[simp] theorem k__law_web (k : Nat) : (g k).known "_law_web" = true := by
  show (fns "_law_web").isSome = true
  rw [f__law_web]; rfl
def b__law_now : Sms := (.cons (.ret (.blt .tuple (.cons (.lc [2, 3] (.n 3) (.e (.idx (.v 1) (.c (.int (0))))) .nil (.bin .mod (.call "_law_next" (.cons (.v 0) .nil) [] .nil) (.v 3))) .nil))) .nil)
theorem f__law_now : fns "_law_now" = some ⟨["dice", "web"], 4, b__law_now⟩ := by kernel_rfl
@[simp] theorem k__law_now (k : Nat) : (g k).known "_law_now" = true := by
  show (fns "_law_now").isSome = true
  rw [f__law_now]; rfl
def b__law_pushes : Sms := (.cons (.set (.t (.n 2)) (.lst .nil)) (.cons (.fr (.n 3) (.rng (.cons (.blt .len (.cons (.idx (.v 1) (.c (.int (0)))) .nil)) .nil)) (.cons (.set (.t (.n 4)) (.call "_law_next" (.cons (.v 0) .nil) [] .nil)) (.cons (.set (.t (.n 5)) (.idx (.lst (.cons (.bin .sub (.bin .mod (.bin .fdiv (.v 4) (.c (.int (6)))) (.c (.int (7)))) (.c (.int (3)))) (.cons (.bin .sub (.bin .mod (.bin .fdiv (.v 4) (.c (.int (6)))) (.c (.int (41)))) (.c (.int (20)))) (.cons (.c (.int (0))) (.cons (.bin .sub (.v 4) (.c (.int (32768)))) (.cons (.bin .sub (.bin .pow (.c (.int (10))) (.c (.int (40)))) (.bin .mod (.bin .fdiv (.v 4) (.c (.int (6)))) (.c (.int (50))))) (.cons (.bin .sub (.bin .mod (.bin .fdiv (.v 4) (.c (.int (6)))) (.c (.int (50)))) (.bin .pow (.c (.int (10))) (.c (.int (40))))) .nil))))))) (.bin .mod (.v 4) (.c (.int (6)))))) (.cons (.ex (.mth .append (.v 2) (.cons (.ite (.cmp .isin (.v 3) (.idx (.v 1) (.c (.int (2))))) (.v 5) (.c (.int (0)))) .nil))) .nil)))) (.cons (.ret (.blt .tuple (.cons (.v 2) .nil))) .nil)))
theorem f__law_pushes : fns "_law_pushes" = some ⟨["dice", "web"], 6, b__law_pushes⟩ := by kernel_rfl
@[simp] theorem k__law_pushes (k : Nat) : (g k).known "_law_pushes" = true := by
  show (fns "_law_pushes").isSome = true
  rw [f__law_pushes]; rfl
def b__law_pushed : Sms := (.cons (.set (.t (.t [3, 4, 5])) (.tup (.cons (.lst .nil) (.cons (.lst .nil) (.cons (.lst .nil) .nil))))) (.cons (.fr (.t [6, 7]) (.enum (.idx (.v 0) (.c (.int (0))))) (.cons (.set (.t (.n 8)) (.bin .add (.idx (.v 2) (.v 6)) (.blt .sum (.cons (.lc [9, 10, 11, 12] (.t [10, 11, 12]) (.e (.idx (.v 0) (.c (.int (1))))) (.cons (.cmp .eq (.v 11) (.v 6)) .nil) (.bin .mul (.v 12) (.idx (.v 4) (.v 10)))) .nil)))) (.cons (.ex (.mth .append (.v 3) (.cons (.v 8) .nil))) (.cons (.ex (.mth .append (.v 4) (.cons (.bin .fdiv (.bin .add (.idx (.v 1) (.v 6)) (.v 8)) (.v 7)) .nil))) (.cons (.ex (.mth .append (.v 5) (.cons (.bin .mod (.bin .add (.idx (.v 1) (.v 6)) (.v 8)) (.v 7)) .nil))) .nil))))) (.cons (.ret (.tup (.cons (.blt .tuple (.cons (.v 3) .nil)) (.cons (.blt .tuple (.cons (.v 4) .nil)) (.cons (.blt .tuple (.cons (.v 5) .nil)) .nil))))) .nil)))
theorem f__law_pushed : fns "_law_pushed" = some ⟨["web", "now", "pushes"], 13, b__law_pushed⟩ := by kernel_rfl
@[simp] theorem k__law_pushed (k : Nat) : (g k).known "_law_pushed" = true := by
  show (fns "_law_pushed").isSome = true
  rw [f__law_pushed]; rfl
def b__law_right : Sms := (.cons (.set (.t (.t [3, 4])) (.tup (.cons (.blt .repr (.cons (.lst (.cons (.v 0) (.cons (.v 1) (.cons (.v 2) .nil)))) .nil)) (.cons (.call "_law_pushed" (.cons (.v 0) (.cons (.v 1) (.cons (.v 2) .nil))) [] .nil) .nil)))) (.cons (.set (.t (.n 5)) (.tup (.cons (.call "arrivals" (.cons (.v 0) (.cons (.v 1) (.cons (.v 2) .nil))) [] .nil) (.cons (.call "carries" (.cons (.v 0) (.cons (.v 1) (.cons (.v 2) .nil))) [] .nil) (.cons (.call "after" (.cons (.v 0) (.cons (.v 1) (.cons (.v 2) .nil))) [] .nil) .nil))))) (.cons (.iff (.orr (.cmp .ne (.blt .repr (.cons (.v 5) .nil)) (.blt .repr (.cons (.v 4) .nil))) (.cmp .ne (.blt .repr (.cons (.lst (.cons (.v 0) (.cons (.v 1) (.cons (.v 2) .nil)))) .nil)) (.v 3))) (.cons (.ret (.c (.bl false))) .nil) .nil) (.cons (.set (.t (.n 6)) (.call "arrivals" .nil ["ticks", "phases", "net"] (.cons (.v 2) (.cons (.v 1) (.cons (.v 0) .nil))))) (.cons (.iff (.orr (.cmp .ne (.v 6) (.idx (.v 4) (.c (.int (0))))) (.cmp .ne (.call "carries" .nil ["ticks", "phases", "net"] (.cons (.v 2) (.cons (.v 1) (.cons (.v 0) .nil)))) (.idx (.v 4) (.c (.int (1)))))) (.cons (.ret (.c (.bl false))) .nil) .nil) (.cons (.iff (.cmp .ne (.call "after" .nil ["ticks", "phases", "net"] (.cons (.v 2) (.cons (.v 1) (.cons (.v 0) .nil)))) (.idx (.v 4) (.c (.int (2))))) (.cons (.ret (.c (.bl false))) .nil) .nil) (.cons (.fr (.t [7, 8]) (.enum (.idx (.v 0) (.c (.int (0))))) (.cons (.iff (.cmp .ne (.bin .add (.idx (.v 1) (.v 7)) (.idx (.idx (.v 5) (.c (.int (0)))) (.v 7))) (.bin .add (.bin .mul (.v 8) (.idx (.idx (.v 5) (.c (.int (1)))) (.v 7))) (.idx (.idx (.v 5) (.c (.int (2)))) (.v 7)))) (.cons (.ret (.c (.bl false))) .nil) .nil) (.cons (.iff (.nt (.chn .le .lt (.c (.int (0))) (.idx (.idx (.v 5) (.c (.int (2)))) (.v 7)) (.v 8))) (.cons (.ret (.c (.bl false))) .nil) .nil) .nil))) (.cons (.ret (.c (.bl true))) .nil))))))))
theorem f__law_right : fns "_law_right" = some ⟨["web", "now", "pushes"], 9, b__law_right⟩ := by kernel_rfl
@[simp] theorem k__law_right (k : Nat) : (g k).known "_law_right" = true := by
  show (fns "_law_right").isSome = true
  rw [f__law_right]; rfl
def b_law : Sms := (.cons (.set (.t (.n 1)) (.call "_law_state" (.cons (.v 0) .nil) [] .nil)) (.cons (.fr (.n 2) (.rng (.cons (.bin .add (.c (.int (3))) (.bin .fdiv (.blt .len (.cons (.slc (.v 0) .non (.som (.c (.int (63))))) .nil)) (.c (.int (6))))) .nil)) (.cons (.set (.t (.n 3)) (.call "_law_web" (.cons (.v 1) (.cons (.ite (.cmp .eq (.v 2) (.c (.int (1)))) (.c (.int (10))) (.c (.int (5)))) (.cons (.c (.int (1000))) .nil))) [] .nil)) (.cons (.set (.t (.t [4, 5])) (.tup (.cons (.call "_law_now" (.cons (.v 1) (.cons (.v 3) .nil)) [] .nil) (.cons (.bin .mul (.tup (.cons (.c (.int (0))) .nil)) (.blt .len (.cons (.idx (.v 3) (.c (.int (0)))) .nil))) .nil)))) (.cons (.fr (.n 6) (.rng (.cons (.c (.int (3))) .nil)) (.cons (.iff (.nt (.call "_law_right" (.cons (.v 3) (.cons (.v 4) (.cons (.call "_law_pushes" (.cons (.v 1) (.cons (.v 3) .nil)) [] .nil) .nil))) [] .nil)) (.cons (.ret (.c (.bl false))) .nil) .nil) .nil)) (.cons (.iff (.cmp .ne (.lst (.cons (.call "arrivals" (.cons (.v 3) (.cons (.v 4) (.cons (.v 5) .nil))) [] .nil) (.cons (.call "carries" (.cons (.v 3) (.cons (.v 4) (.cons (.v 5) .nil))) [] .nil) (.cons (.call "after" (.cons (.v 3) (.cons (.v 4) (.cons (.v 5) .nil))) [] .nil) .nil)))) (.lst (.cons (.v 5) (.cons (.v 5) (.cons (.v 4) .nil))))) (.cons (.ret (.c (.bl false))) .nil) .nil) .nil))))) (.cons (.ret (.c (.bl true))) .nil)))
theorem f_law : fns "law" = some ⟨["script"], 7, b_law⟩ := by kernel_rfl
@[simp] theorem k_law (k : Nat) : (g k).known "law" = true := by
  show (fns "law").isSome = true
  rw [f_law]; rfl
end Mp.K07

set_option Elab.async false
set_option linter.all false
set_option maxRecDepth 100000
set_option maxHeartbeats 4000000
set_option autoImplicit false
namespace Mp.K07
open PySem PySem.Spec L2
abbrev C (k : Nat) (f : Str) (ds : List D) (M : Mem) : Res D := callF glob L0 fns k f ds [] M
@[simp] theorem g_MC (k : Nat) : (g k).glob "MOST_COUNTERS" = some (.int 10) := rfl
@[simp] theorem g_MM (k : Nat) : (g k).glob "MOST_MODULUS" = some (.int 1000) := rfl
@[simp] theorem g_MW (k : Nat) : (g k).glob "MOST_WEIGHT" = some (.int 100) := rfl
@[simp] theorem g_MT (k : Nat) : (g k).glob "MOST_TICKS" = some (.int (10 ^ 40)) := rfl
theorem is_integer_int (k : Nat) (i : Int) (M : Mem) : C (k + 1) "is_integer" [.int i] M = .ok (.bl true) M := by
  rw [C, call_of f_is_integer]
  simp [xs, xss, ev, evs, evo, evc, evi, tst, bindArg, mapO, startS, b_is_integer]
theorem is_between_int (k : Nat) (a lo hi : Int) (M : Mem) : C (k + 2) "is_between" [.int a, .int lo, .int hi] M = .ok (.bl (decide (lo ≤ a) && decide (a ≤ hi))) M := by
  rw [C, call_of f_is_between]
  simp [xs, xss, ev, evs, evo, evc, evi, tst, bindArg, mapO, startS, b_is_between, is_integer_int]
  by_cases h : lo ≤ a <;> simp [xs, xss, ev, evs, evo, evc, evi, tst, bindArg, mapO, startS, h]
theorem is_tuple_of_tup (k : Nat) (l : List D) (n : Int) (M : Mem) : C (k + 1) "is_tuple_of" [.tup l, .int n] M = .ok (.bl ((l.length : Int) == n)) M := by
  rw [C, call_of f_is_tuple_of]
  simp [xs, xss, ev, evs, evo, evc, evi, tst, bindArg, mapO, startS, b_is_tuple_of]
theorem is_counter_int (k : Nat) (a n : Int) (M : Mem) : C (k + 3) "is_counter" [.int a, .int n] M = .ok (.bl (decide (0 ≤ a) && decide (a ≤ n - 1))) M := by
  rw [C, call_of f_is_counter]
  simp [xs, xss, ev, evs, evo, evc, evi, tst, bindArg, mapO, startS, b_is_counter, is_between_int]
end Mp.K07

set_option Elab.async false
set_option linter.all false
set_option maxRecDepth 100000
set_option maxHeartbeats 4000000
set_option autoImplicit false
namespace Mp.K07
open PySem PySem.Spec L2
abbrev tI (l : List Int) : D := .tup (l.map .int)
def encW (w : Int × Int × Int) : D := .tup [.int w.1, .int w.2.1, .int w.2.2]
abbrev web (ms : List Int) (ws : List (Int × Int × Int)) (is : List Int) : D := .tup [tI ms, .tup (ws.map encW), tI is]
structure Valid (ms : List Int) (ws : List (Int × Int × Int)) (is : List Int) : Prop where
  n1 : 1 ≤ ms.length
  n2 : ms.length ≤ 10
  m : ∀ x ∈ ms, 2 ≤ x ∧ x ≤ 1000
  w : ∀ x ∈ ws, 0 ≤ x.1 ∧ x.1 < x.2.1 ∧ x.2.1 < ms.length ∧ -100 ≤ x.2.2 ∧ x.2.2 ≤ 100 ∧ x.2.2 ≠ 0
  ws : ws.Pairwise fun x y => x.1 < y.1 ∨ x.1 = y.1 ∧ x.2.1 < y.2.1
  i : ∀ x ∈ is, 0 ≤ x ∧ x < ms.length
  is : is.Pairwise (· < ·)
variable {ms : List Int} {ws : List (Int × Int × Int)} {is : List Int}
theorem get_ints {ms : List Int} {i : Nat} {d : D} (h : (ms.map D.int)[i]? = some d) : ∃ x, x ∈ ms ∧ ms[i]? = some x ∧ d = .int x := by
  rw [List.getElem?_map] at h
  obtain ⟨x, e, rfl⟩ := Option.map_eq_some_iff.mp h
  exact ⟨x, List.mem_of_getElem? e, e, rfl⟩
theorem moduli_ok (v : Valid ms ws is) (k : Nat) (M : Mem) : C (k + 3) "moduli_fault" [tI ms] M = .ok .non M := by
  rw [C, call_of f_moduli_fault]
  have h1 : (1 : Int) ≤ ms.length := by have := v.n1; omega
  have h2 : (ms.length : Int) ≤ 10 := by have := v.n2; omega
  simp [xs, xss, ev, evs, evo, evc, evi, tst, bindArg, mapO, startS, bindT, b_moduli_fault, h1, h2]
  refine ran_bind (fr_enumN (by simp [xs, xss, ev, evs, evo, evc, evi, tst, bindArg, mapO, startS, bindT]) (fun i σ M' => M' = M ∧ ∃ a b, σ = [some (tI ms), a, b]) ⟨rfl, none, none, rfl⟩ ?_) ?_
  · rintro i d σ M' h ⟨rfl, a, b, rfl⟩
    obtain ⟨x, hx, _, rfl⟩ := get_ints h
    have := v.m x hx
    simp [xs, xss, ev, evs, evo, evc, evi, tst, bindArg, mapO, startS, bindT, is_between_int, this.1, this.2]
    exact ⟨_, _, ⟨rfl, rfl⟩, rfl, _, _, rfl⟩
  · rintro σ M' ⟨rfl, _⟩
    rfl
theorem is_wire_ok {w : Int × Int × Int} {n : Nat} (h : 0 ≤ w.1 ∧ w.1 < w.2.1 ∧ w.2.1 < n ∧ -100 ≤ w.2.2 ∧ w.2.2 ≤ 100 ∧ w.2.2 ≠ 0) (k : Nat) (M : Mem) : C (k + 4) "is_wire" [encW w, .int n] M = .ok (.bl true) M := by
  obtain ⟨u, x, y⟩ := w
  obtain ⟨a, b, c, d, e, f⟩ := h
  simp only at a b c d e f
  rw [C, call_of f_is_wire]
  have h1 : u ≤ (n : Int) - 1 := by omega
  have h2 : x ≤ (n : Int) - 1 := by omega
  have h3 : (0 : Int) ≤ x := by omega
  simp [xs, xss, ev, evs, evo, evc, evi, tst, bindArg, mapO, startS, bindT, b_is_wire, encW, is_tuple_of_tup, is_counter_int, is_between_int, a, b, d, e, f, h1, h2, h3]
theorem inputs_ok (v : Valid ms ws is) (k : Nat) (M : Mem) : C (k + 4) "inputs_fault" [tI is, .int ms.length] M = .ok .non M := by
  rw [C, call_of f_inputs_fault]
  simp [xs, xss, ev, evs, evo, evc, evi, tst, bindArg, mapO, startS, bindT, b_inputs_fault]
  refine ran_bind (fr_enumN (by simp [xs, xss, ev, evs, evo, evc, evi, tst, bindArg, mapO, startS, bindT]) (fun i σ M' => M' = M ∧ ∃ a b c, σ = [some (tI is), some (.int ms.length), some (.int c), a, b] ∧ ∀ x, is[i]? = some x → c < x) ⟨rfl, none, none, -1, rfl, ?_⟩ ?_) ?_
  · intro x h
    have := v.i x (List.mem_of_getElem? h)
    omega
  · rintro i d σ M' h ⟨rfl, a, b, c, rfl, hc⟩
    obtain ⟨x, hx, e, rfl⟩ := get_ints h
    have q := v.i x hx
    have h1 : x ≤ (ms.length : Int) - 1 := by omega
    have h2 : ¬ x ≤ c := by have := hc x e; omega
    simp [xs, xss, ev, evs, evo, evc, evi, tst, bindArg, mapO, startS, bindT, is_counter_int, q.1, h1, h2]
    refine ⟨_, _, ⟨rfl, rfl⟩, rfl, _, _, x, rfl, fun y hy => ?_⟩
    have hi := (List.getElem?_eq_some_iff.mp e)
    have hj := (List.getElem?_eq_some_iff.mp hy)
    have := List.pairwise_iff_getElem.mp v.is i (i + 1) hi.1 hj.1 (by omega)
    rw [hi.2, hj.2] at this
    exact this
  · rintro σ M' ⟨rfl, _⟩
    rfl
theorem get_ws {ws : List (Int × Int × Int)} {i : Nat} {d : D} (h : (ws.map encW)[i]? = some d) : ∃ x, x ∈ ws ∧ ws[i]? = some x ∧ d = encW x := by
  rw [List.getElem?_map] at h
  obtain ⟨x, e, rfl⟩ := Option.map_eq_some_iff.mp h
  exact ⟨x, List.mem_of_getElem? e, e, rfl⟩
theorem wires_ok (v : Valid ms ws is) (k : Nat) (M : Mem) : C (k + 5) "wires_fault" [.tup (ws.map encW), .int ms.length] M = .ok .non M := by
  rw [C, call_of f_wires_fault]
  simp [xs, xss, ev, evs, evo, evc, evi, tst, bindArg, mapO, startS, bindT, b_wires_fault]
  refine ran_bind (fr_enumN (by simp [xs, xss, ev, evs, evo, evc, evi, tst, bindArg, mapO, startS, bindT]) (fun i σ M' => M' = M ∧ ∃ a b p q, σ = [some (.tup (ws.map encW)), some (.int ms.length), some (.tup [.int p, .int q]), a, b] ∧ ∀ x, ws[i]? = some x → p < x.1 ∨ p = x.1 ∧ q < x.2.1) ⟨rfl, none, none, -1, -1, rfl, ?_⟩ ?_) ?_
  · intro x h
    have := v.w x (List.mem_of_getElem? h)
    omega
  · rintro i d σ M' h ⟨rfl, a, b, p, q, rfl, hc⟩
    obtain ⟨x, hx, e, rfl⟩ := get_ws h
    have ok := is_wire_ok (v.w x hx) k M'
    have lt := hc x e
    obtain ⟨x1, x2, x3⟩ := x
    simp only at lt
    have h2 : (if x1 = p then decide (x2 ≤ q) else decide (x1 ≤ p)) = false := by
      split
      · simp [xs, xss, ev, evs, evo, evc, evi, tst, bindArg, mapO, startS, bindT]; omega
      · simp [xs, xss, ev, evs, evo, evc, evi, tst, bindArg, mapO, startS, bindT]; omega
    simp only [encW] at ok ⊢
    simp [xs, xss, ev, evs, evo, evc, evi, tst, bindArg, mapO, startS, bindT, ok, cut2, le_pair, h2]
    refine ⟨_, _, ⟨rfl, rfl⟩, rfl, _, _, x1, x2, rfl, fun y1 y2 y3 hy => ?_⟩
    have hi := (List.getElem?_eq_some_iff.mp e)
    have hj := (List.getElem?_eq_some_iff.mp hy)
    have := List.pairwise_iff_getElem.mp v.ws i (i + 1) hi.1 hj.1 (by omega)
    rw [hi.2, hj.2] at this
    exact this
  · rintro σ M' ⟨rfl, _⟩
    rfl
theorem net_fault_ok (v : Valid ms ws is) (k : Nat) (M : Mem) : C (k + 6) "net_fault" [web ms ws is] M = .ok .non M := by
  rw [C, call_of f_net_fault]
  have h1 := moduli_ok v (k + 2) M
  have h2 := wires_ok v k M
  have h3 := inputs_ok v (k + 1) M
  simp only [tI] at h1 h3
  simp [xs, xss, ev, evs, evo, evc, evi, tst, bindArg, mapO, startS, bindT, b_net_fault, is_tuple_of_tup, h1, h2, h3]
theorem validate_net_ok (v : Valid ms ws is) (k : Nat) (M : Mem) : C (k + 7) "validate_net" [web ms ws is] M = .ok .non M := by
  rw [C, call_of f_validate_net]
  have h := net_fault_ok v k M
  simp only [web, tI] at h
  simp [xs, xss, ev, evs, evo, evc, evi, tst, bindArg, mapO, startS, bindT, b_validate_net, h]
end Mp.K07

set_option Elab.async false
set_option linter.all false
set_option maxRecDepth 100000
set_option maxHeartbeats 4000000
set_option autoImplicit false
namespace Mp.K07
open PySem PySem.Spec L2
variable {ms : List Int} {ws : List (Int × Int × Int)} {is now t : List Int}
structure Now (ms now : List Int) : Prop where
  len : now.length = ms.length
  ok : ∀ (i : Nat) (m x : Int), ms[i]? = some m → now[i]? = some x → 0 ≤ x ∧ x < m
structure Push (ms is t : List Int) : Prop where
  len : t.length = ms.length
  ok : ∀ (i : Nat) (x : Int), t[i]? = some x → -10000000000000000000000000000000000000000 ≤ x ∧ x ≤ 10000000000000000000000000000000000000000 ∧ (x ≠ 0 → (i : Int) ∈ is)
theorem phases_ok (n : Now ms now) (k : Nat) (M : Mem) (r1 r2 : D) : C (k + 3) "phases_fault" [.tup [tI ms, r1, r2], tI now] M = .ok .non M := by
  rw [C, call_of f_phases_fault]
  have e0 : atD [tI ms, r1, r2] 0 = some (tI ms) := atD_nat [tI ms, r1, r2] 0
  have hl : (now.length : Int) = ms.length := by rw [n.len]
  simp [xs, xss, ev, evs, evo, evc, evi, tst, bindArg, mapO, startS, bindT, b_phases_fault, e0, is_tuple_of_tup, hl]
  refine ran_bind (fr_enumN (by simp [xs, xss, ev, evs, evo, evc, evi, tst, bindArg, mapO, startS, bindT]) (fun i σ M' => M' = M ∧ ∃ a b, σ = [some (.tup [tI ms, r1, r2]), some (tI now), some (tI ms), a, b]) ⟨rfl, none, none, rfl⟩ ?_) ?_
  · rintro i d σ M' h ⟨rfl, a, b, rfl⟩
    obtain ⟨x, hx, e, rfl⟩ := get_ints h
    have hi := (List.getElem?_eq_some_iff.mp e).1
    have hm : ms[i]? = some (ms[i]'(by rw [← n.len]; exact hi)) := List.getElem?_eq_getElem _
    have q := n.ok i _ x hm e
    have e1 : atD (ms.map D.int) (i : Int) = some (.int (ms[i]'(by rw [← n.len]; exact hi))) := by rw [atD_nat, List.getElem?_map, hm]; rfl
    have h1 : x ≤ ms[i]'(by rw [← n.len]; exact hi) - 1 := by omega
    simp [xs, xss, ev, evs, evo, evc, evi, tst, bindArg, mapO, startS, bindT, e1, is_between_int, q.1, h1]
    exact ⟨_, _, ⟨rfl, rfl⟩, rfl, _, _, rfl⟩
  · rintro σ M' ⟨rfl, _⟩
    rfl
theorem check_phases_ok (n : Now ms now) (k : Nat) (M : Mem) (r1 r2 : D) : C (k + 4) "check_phases" [.tup [tI ms, r1, r2], tI now] M = .ok .non M := by
  rw [C, call_of f_check_phases]
  have h := phases_ok n k M r1 r2
  simp only [tI] at h
  simp [xs, xss, ev, evs, evo, evc, evi, tst, bindArg, mapO, startS, bindT, b_check_phases, h]
theorem validate_phases_ok (v : Valid ms ws is) (n : Now ms now) (k : Nat) (M : Mem) : C (k + 8) "validate_phases" [web ms ws is, tI now] M = .ok .non M := by
  rw [C, call_of f_validate_phases]
  have h1 := validate_net_ok v k M
  have h2 := check_phases_ok n (k + 3) M (.tup (ws.map encW)) (tI is)
  simp only [web, tI] at h1 h2
  simp [xs, xss, ev, evs, evo, evc, evi, tst, bindArg, mapO, startS, bindT, b_validate_phases, h1, h2]
theorem ticks_ok (p : Push ms is t) (k : Nat) (M : Mem) (r1 : D) : C (k + 3) "ticks_fault" [.tup [tI ms, r1, tI is], tI t] M = .ok .non M := by
  rw [C, call_of f_ticks_fault]
  have hl : (t.length : Int) = ms.length := by rw [p.len]
  simp [xs, xss, ev, evs, evo, evc, evi, tst, bindArg, mapO, startS, bindT, b_ticks_fault, is_tuple_of_tup, hl]
  refine ran_bind (fr_enumN (by simp [xs, xss, ev, evs, evo, evc, evi, tst, bindArg, mapO, startS, bindT]) (fun i σ M' => M' = M ∧ ∃ a b, σ = [some (.tup [tI ms, r1, tI is]), some (tI t), some (tI ms), some r1, some (tI is), a, b]) ⟨rfl, none, none, rfl⟩ ?_) ?_
  · rintro i d σ M' h ⟨rfl, a, b, rfl⟩
    obtain ⟨x, hx, e, rfl⟩ := get_ints h
    obtain ⟨q1, q2, q3⟩ := p.ok i x e
    by_cases h0 : x = 0
    · subst h0
      simp [xs, xss, ev, evs, evo, evc, evi, tst, bindArg, mapO, startS, bindT, is_between_int]
      exact ⟨_, _, ⟨rfl, rfl⟩, rfl, _, _, rfl⟩
    · have h3 := q3 h0
      simp [xs, xss, ev, evs, evo, evc, evi, tst, bindArg, mapO, startS, bindT, is_between_int, q1, q2, h0, inD_ints, h3]
      exact ⟨_, _, ⟨rfl, rfl⟩, rfl, _, _, rfl⟩
  · rintro σ M' ⟨rfl, _⟩
    rfl
theorem check_ticks_ok (p : Push ms is t) (k : Nat) (M : Mem) (r1 : D) : C (k + 4) "check_ticks" [.tup [tI ms, r1, tI is], tI t] M = .ok .non M := by
  rw [C, call_of f_check_ticks]
  have h := ticks_ok p k M r1
  simp only [tI] at h
  simp [xs, xss, ev, evs, evo, evc, evi, tst, bindArg, mapO, startS, bindT, b_check_ticks, h]
theorem validate_ticks_ok (v : Valid ms ws is) (n : Now ms now) (p : Push ms is t) (k : Nat) (M : Mem) : C (k + 9) "validate_ticks" [web ms ws is, tI now, tI t] M = .ok .non M := by
  rw [C, call_of f_validate_ticks]
  have h1 := validate_phases_ok v n k M
  have h2 := check_ticks_ok p (k + 4) M (.tup (ws.map encW))
  simp only [web, tI] at h1 h2
  simp [xs, xss, ev, evs, evo, evc, evi, tst, bindArg, mapO, startS, bindT, b_validate_ticks, h1, h2]
end Mp.K07

set_option Elab.async false
set_option linter.all false
set_option maxRecDepth 100000
set_option maxHeartbeats 4000000
set_option autoImplicit false
namespace Mp.K07
open PySem PySem.Spec L2
variable {ms : List Int} {ws : List (Int × Int × Int)} {is now t : List Int}
/-- one wire's carries arrive -/
def stepW (ms now a : List Int) (w : Int × Int × Int) : List Int := a.set w.2.1.toNat (nth a w.2.1.toNat + w.2.2 * ((nth now w.1.toNat + nth a w.1.toNat) / nth ms w.1.toNat))
def arr (ms now : List Int) (ws : List (Int × Int × Int)) (t : List Int) : List Int := ws.foldl (stepW ms now) t
theorem stepW_len (ms now a : List Int) (w : Int × Int × Int) : (stepW ms now a w).length = a.length := List.length_set
theorem arr_len (ms now : List Int) (ws : List (Int × Int × Int)) (t : List Int) : (arr ms now ws t).length = t.length := by
  unfold arr
  induction ws generalizing t with
  | nil => rfl
  | cons w ws ih => rw [List.foldl_cons, ih, stepW_len]
theorem all_arrivals_ok (v : Valid ms ws is) (n : Now ms now) (p : t.length = ms.length) (k : Nat) (M : Mem) : C (k + 1) "all_arrivals" [web ms ws is, tI now, tI t] M = .ok (tI (arr ms now ws t)) (M ++ [.lst ((arr ms now ws t).map .int)]) := by
  rw [C, call_of f_all_arrivals]
  simp [xs, xss, ev, evs, evo, evc, evi, tst, bindArg, mapO, startS, bindT, b_all_arrivals, bfn]
  refine ran_bind (fr_oneN (by simp [xs, xss, ev, evs, evo, evc, evi, tst, bindArg, mapO, startS, bindT]) (fun i σ M' => M' = M ++ [.lst ((arr ms now (ws.take i) t).map .int)] ∧ ∃ a b c, σ = [some (web ms ws is), some (tI now), some (tI t), some (tI ms), some (.tup (ws.map encW)), some (tI is), some (.ref M.length), a, b, c]) ⟨by simp [xs, xss, ev, evs, evo, evc, evi, tst, bindArg, mapO, startS, bindT, arr], none, none, none, rfl⟩ ?_) ?_
  · rintro i d σ M' h ⟨rfl, a, b, c, rfl⟩
    obtain ⟨x, hx, e, rfl⟩ := get_ws h
    have q := v.w x hx
    obtain ⟨u, y, w⟩ := x
    simp only at q
    obtain ⟨un, rfl⟩ := Int.eq_ofNat_of_zero_le (show 0 ≤ u by omega)
    obtain ⟨yn, rfl⟩ := Int.eq_ofNat_of_zero_le (show 0 ≤ y by omega)
    generalize hA : arr ms now (ws.take i) t = A
    have lA : A.length = ms.length := by rw [← hA, arr_len, p]
    have hu : un < ms.length := by omega
    have hy : yn < ms.length := by omega
    have e1 : atD (now.map D.int) (un : Int) = some (.int (nth now un)) := by rw [atD_nat, at_int (by rw [n.len]; exact hu)]
    have e2 : atD (ms.map D.int) (un : Int) = some (.int (nth ms un)) := by rw [atD_nat, at_int hu]
    have e3 : idxD (.ref M.length) (.int (un : Nat)) (M ++ [.lst (A.map D.int)]) = some (.int (nth A un)) := by rw [idx_lst (last_get _ _), atD_nat, at_int (by omega)]
    have e4 : idxD (.ref M.length) (.int (yn : Nat)) (M ++ [.lst (A.map D.int)]) = some (.int (nth A yn)) := by rw [idx_lst (last_get _ _), atD_nat, at_int (by omega)]
    have hm := v.m (nth ms un) (nth_mem hu)
    have e5 : ∀ x M, setD (.ref M.length) (.int (yn : Nat)) x (M ++ [.lst (A.map D.int)]) = some (M ++ [.lst ((A.map D.int).set yn x)]) := fun x M => by
      rw [setD_lst (last_get _ _) (by simp [xs, xss, ev, evs, evo, evc, evi, tst, bindArg, mapO, startS, bindT]; omega), last_set]
    have hnext : arr ms now (ws.take (i + 1)) t = stepW ms now A ((un : Int), (yn : Int), w) := by
      rw [← hA]
      unfold arr
      rw [List.take_add_one, e, List.foldl_append]
      rfl
    simp [xs, xss, ev, evs, evo, evc, evi, tst, bindArg, mapO, startS, bindT, encW, e1, e2, e3, e4, fdiv_int _ _ _ (show 0 < nth ms un by omega) (log_small hm.2 (by omega)), mul_int _ _ _ (mul_small (show -1000000 ≤ w by omega) (show w ≤ 1000000 by omega)), iop, e5]
    refine ⟨_, _, ⟨rfl, rfl⟩, ?_, _, _, _, rfl⟩
    rw [hnext]
    simp [xs, xss, ev, evs, evo, evc, evi, tst, bindArg, mapO, startS, bindT, stepW, List.map_set]
  · rintro σ M' ⟨rfl, a, b, c, rfl⟩
    simp [xs, xss, ev, evs, evo, evc, evi, tst, bindArg, mapO, startS, bindT, lstOf, listAt]
end Mp.K07

set_option Elab.async false
set_option linter.all false
set_option maxRecDepth 100000
set_option maxHeartbeats 4000000
set_option autoImplicit false
namespace Mp.K07
open PySem PySem.Spec L2
variable {ms : List Int} {ws : List (Int × Int × Int)} {is now t : List Int}
def sums (now a : List Int) : List Int := List.zipWith (· + ·) now a
def quo (s ms : List Int) : List Int := List.zipWith (· / ·) s ms
def rem (s ms : List Int) : List Int := List.zipWith (· % ·) s ms
theorem effect_ok (v : Valid ms ws is) (n : Now ms now) (p : t.length = ms.length) (k : Nat) (M : Mem) : ∃ N, C (k + 2) "effect" [web ms ws is, tI now, tI t] M = .ok (.tup [tI (quo (sums now (arr ms now ws t)) ms), tI (rem (sums now (arr ms now ws t)) ms)]) (M ++ N) := by
  rw [C, call_of f_effect]
  have h1 := all_arrivals_ok v n p k M
  have la := arr_len ms now ws t
  generalize arr ms now ws t = A at h1 la ⊢
  have n2 := v.n2
  have nl := n.len
  have e0 : atD [tI ms, .tup (ws.map encW), tI is] 0 = some (tI ms) := atD_nat [tI ms, .tup (ws.map encW), tI is] 0
  generalize hw : (D.tup (ws.map encW)) = W at h1 e0
  generalize hi : tI is = I at h1 e0
  have eW : web ms ws is = .tup [tI ms, W, I] := by rw [← hw, ← hi]
  rw [eW] at h1 ⊢
  generalize hB : M ++ [MO.lst (A.map .int)] = B at h1
  have c1 : ev (g (k + 1)) (.lc [7, 8, 9] (.t [8, 9]) (.zip (.v 1) (.v 3)) .nil (.bin .add (.v 8) (.v 9))) [some (.tup [tI ms, W, I]), some (tI now), some (tI t), some (tI A), none, none, none, none, none, none, none, none] B = .ok (.ref B.length) (B ++ [.lst ((sums now A).map .int)]) :=
    lc_zip (evi_zip (ev_v rfl) (ev_v rfl) rfl rfl) rfl (fun _ => rfl) (by omega) fun j x y acc _ _ => by simp [xss, evo, tst, bindArg, mapO, startS, wipeS, ev_c, ev_v, ev_g, ev_bin, ev_nt, ev_cmp, ev_chn, ev_an, ev_orr, ev_ite, ev_tup, ev_lst, ev_idx, ev_slc, ev_call, ev_blt, ev_mth, xs_ex, xs_set, xs_sub, xs_ret, xs_iff, bt_n, bt_t]
  have hB1 : (B ++ [MO.lst ((sums now A).map .int)])[B.length]? = some (.lst ((sums now A).map .int)) := last_get _ _
  generalize hB1' : B ++ [MO.lst ((sums now A).map .int)] = B1 at c1 hB1
  have ls : (sums now A).length ≤ 10 := by simp [xss, evo, tst, bindArg, mapO, startS, wipeS, ev_c, ev_v, ev_g, ev_bin, ev_nt, ev_cmp, ev_chn, ev_an, ev_orr, ev_ite, ev_tup, ev_lst, ev_idx, ev_slc, ev_call, ev_blt, ev_mth, xs_ex, xs_set, xs_sub, xs_ret, xs_iff, bt_n, bt_t, sums]; omega
  have c2 : ev (g (k + 1)) (.lc [7, 10, 11] (.t [10, 11]) (.zip (.v 4) (.idx (.v 0) (.c (.int (0))))) .nil (.bin .fdiv (.v 10) (.v 11))) [some (.tup [tI ms, W, I]), some (tI now), some (tI t), some (tI A), some (.ref B.length), none, none, none, none, none, none, none] B1 = .ok (.ref B1.length) (B1 ++ [.lst ((quo (sums now A) ms).map .int)]) := by
    refine lc_zip (i := .zip (.lst B.length) (.snap (ms.map .int))) (evi_zip (M1 := B1) (ev_v rfl) (y := tI ms) ?_ (src_ref hB1) rfl) (now_app0 hB1 fun _ => rfl) (fun _ => now_app hB1 fun _ => rfl) (by omega) fun j x y acc _ hy => ?_
    · simp [xss, evo, tst, bindArg, mapO, startS, wipeS, ev_c, ev_v, ev_g, ev_bin, ev_nt, ev_cmp, ev_chn, ev_an, ev_orr, ev_ite, ev_tup, ev_lst, ev_idx, ev_slc, ev_call, ev_blt, ev_mth, xs_ex, xs_set, xs_sub, xs_ret, xs_iff, bt_n, bt_t, e0]
    · have hm := v.m y (List.mem_of_getElem? hy)
      simp [xss, evo, tst, bindArg, mapO, startS, wipeS, ev_c, ev_v, ev_g, ev_bin, ev_nt, ev_cmp, ev_chn, ev_an, ev_orr, ev_ite, ev_tup, ev_lst, ev_idx, ev_slc, ev_call, ev_blt, ev_mth, xs_ex, xs_set, xs_sub, xs_ret, xs_iff, bt_n, bt_t, fdiv_int _ _ _ (show 0 < y by omega) (log_small hm.2 (by omega))]
  have hB2 : (B1 ++ [MO.lst ((quo (sums now A) ms).map .int)])[B.length]? = some (.lst ((sums now A).map .int)) := by
    rw [List.getElem?_append_left (List.getElem?_eq_some_iff.mp hB1).1, hB1]
  have t2 : bfn .tuple [.ref B1.length] (B1 ++ [MO.lst ((quo (sums now A) ms).map .int)]) = .ok (tI (quo (sums now A) ms)) (B1 ++ [MO.lst ((quo (sums now A) ms).map .int)]) := tup_lst (last_get _ _)
  generalize hB2' : B1 ++ [MO.lst ((quo (sums now A) ms).map .int)] = B2 at c2 hB2 t2
  have c3 : ev (g (k + 1)) (.lc [7, 10, 11] (.t [10, 11]) (.zip (.v 4) (.idx (.v 0) (.c (.int (0))))) .nil (.bin .mod (.v 10) (.v 11))) [some (.tup [tI ms, W, I]), some (tI now), some (tI t), some (tI A), some (.ref B.length), some (tI (quo (sums now A) ms)), none, none, none, none, none, none] B2 = .ok (.ref B2.length) (B2 ++ [.lst ((rem (sums now A) ms).map .int)]) := by
    refine lc_zip (i := .zip (.lst B.length) (.snap (ms.map .int))) (evi_zip (M1 := B2) (ev_v rfl) (y := tI ms) ?_ (src_ref hB2) rfl) (now_app0 hB2 fun _ => rfl) (fun _ => now_app hB2 fun _ => rfl) (by omega) fun j x y acc _ hy => ?_
    · simp [xss, evo, tst, bindArg, mapO, startS, wipeS, ev_c, ev_v, ev_g, ev_bin, ev_nt, ev_cmp, ev_chn, ev_an, ev_orr, ev_ite, ev_tup, ev_lst, ev_idx, ev_slc, ev_call, ev_blt, ev_mth, xs_ex, xs_set, xs_sub, xs_ret, xs_iff, bt_n, bt_t, e0]
    · have hm := v.m y (List.mem_of_getElem? hy)
      simp [xss, evo, tst, bindArg, mapO, startS, wipeS, ev_c, ev_v, ev_g, ev_bin, ev_nt, ev_cmp, ev_chn, ev_an, ev_orr, ev_ite, ev_tup, ev_lst, ev_idx, ev_slc, ev_call, ev_blt, ev_mth, xs_ex, xs_set, xs_sub, xs_ret, xs_iff, bt_n, bt_t, mod_int _ _ _ (show 0 < y by omega)]
  have t3 : bfn .tuple [.ref B2.length] (B2 ++ [MO.lst ((rem (sums now A) ms).map .int)]) = .ok (tI (rem (sums now A) ms)) (B2 ++ [MO.lst ((rem (sums now A) ms).map .int)]) := tup_lst (last_get _ _)
  generalize hB3' : B2 ++ [MO.lst ((rem (sums now A) ms).map .int)] = B3 at c3 t3
  refine ⟨[.lst (A.map .int), .lst ((sums now A).map .int), .lst ((quo (sums now A) ms).map .int), .lst ((rem (sums now A) ms).map .int)], ?_⟩
  have eM : M ++ [MO.lst (A.map .int), .lst ((sums now A).map .int), .lst ((quo (sums now A) ms).map .int), .lst ((rem (sums now A) ms).map .int)] = B3 := by
    rw [← hB3', ← hB2', ← hB1', ← hB]
    simp [xss, evo, tst, bindArg, mapO, startS, wipeS, ev_c, ev_v, ev_g, ev_bin, ev_nt, ev_cmp, ev_chn, ev_an, ev_orr, ev_ite, ev_tup, ev_lst, ev_idx, ev_slc, ev_call, ev_blt, ev_mth, xs_ex, xs_set, xs_sub, xs_ret, xs_iff, bt_n, bt_t]
  rw [eM]
  generalize tI (quo (sums now A) ms) = Q at *
  generalize tI (rem (sums now A) ms) = R at *
  generalize tI ms = D1 at *
  generalize tI now = D2 at *
  generalize tI t = D3 at *
  generalize tI A = D4 at *
  simp [xss, evo, tst, bindArg, mapO, startS, wipeS, ev_c, ev_v, ev_g, ev_bin, ev_nt, ev_cmp, ev_chn, ev_an, ev_orr, ev_ite, ev_tup, ev_lst, ev_idx, ev_slc, ev_call, ev_blt, ev_mth, xs_ex, xs_set, xs_sub, xs_ret, xs_iff, bt_n, bt_t, b_effect, h1, c1, c2, c3, t2, t3]
end Mp.K07

set_option Elab.async false
set_option linter.all false
set_option maxRecDepth 100000
set_option maxHeartbeats 4000000
set_option autoImplicit false
namespace Mp.K07
open PySem PySem.Spec L2
variable {ms : List Int} {ws : List (Int × Int × Int)} {is now t : List Int}
abbrev A3 (ms : List Int) (ws : List (Int × Int × Int)) (now t : List Int) : List Int := arr ms now ws t
abbrev Q3 (ms : List Int) (ws : List (Int × Int × Int)) (now t : List Int) : List Int := quo (sums now (arr ms now ws t)) ms
abbrev R3 (ms : List Int) (ws : List (Int × Int × Int)) (now t : List Int) : List Int := rem (sums now (arr ms now ws t)) ms
theorem by_name {k : Nat} {f : Str} {n : Nat} {b : Sms} (h : fns f = some ⟨["net", "phases", "ticks"], n, b⟩) (x y z : D) (M : Mem) : callF glob L0 fns (k + 1) f [] [("ticks", z), ("phases", y), ("net", x)] M = C (k + 1) f [x, y, z] M := by
  rw [C, call_of h, call_of h]
  have e1 : bindArg ["net", "phases", "ticks"] [] [("ticks", z), ("phases", y), ("net", x)] = some [x, y, z] := rfl
  have e2 : bindArg ["net", "phases", "ticks"] [x, y, z] [] = some [x, y, z] := rfl
  rw [e1, e2]
theorem arrivals_ok (v : Valid ms ws is) (n : Now ms now) (p : Push ms is t) (k : Nat) (M : Mem) : ∃ N, C (k + 10) "arrivals" [web ms ws is, tI now, tI t] M = .ok (tI (A3 ms ws now t)) (M ++ N) := by
  refine ⟨[.lst ((A3 ms ws now t).map .int)], ?_⟩
  rw [C, call_of f_arrivals]
  have h1 := validate_ticks_ok v n p k M
  have h2 := all_arrivals_ok v n p.len (k + 8) M
  generalize web ms ws is = W at *
  generalize tI now = D2 at *
  generalize tI t = D3 at *
  simp [xss, evo, tst, bindArg, mapO, startS, wipeS, ev_c, ev_v, ev_g, ev_bin, ev_nt, ev_cmp, ev_chn, ev_an, ev_orr, ev_ite, ev_tup, ev_lst, ev_idx, ev_slc, ev_call, ev_blt, ev_mth, xs_ex, xs_set, xs_sub, xs_ret, xs_iff, bt_n, bt_t, b_arrivals, h1, h2]
theorem carries_ok (v : Valid ms ws is) (n : Now ms now) (p : Push ms is t) (k : Nat) (M : Mem) : ∃ N, C (k + 10) "carries" [web ms ws is, tI now, tI t] M = .ok (tI (Q3 ms ws now t)) (M ++ N) := by
  obtain ⟨N, h2⟩ := effect_ok v n p.len (k + 7) M
  refine ⟨N, ?_⟩
  rw [C, call_of f_carries]
  have h1 := validate_ticks_ok v n p k M
  have e0 : atD [tI (Q3 ms ws now t), tI (R3 ms ws now t)] 0 = some (tI (Q3 ms ws now t)) := atD_nat [tI (Q3 ms ws now t), tI (R3 ms ws now t)] 0
  generalize web ms ws is = W at *
  generalize tI (Q3 ms ws now t) = Q at *
  generalize tI (R3 ms ws now t) = R at *
  generalize tI now = D2 at *
  generalize tI t = D3 at *
  simp [xss, evo, tst, bindArg, mapO, startS, wipeS, ev_c, ev_v, ev_g, ev_bin, ev_nt, ev_cmp, ev_chn, ev_an, ev_orr, ev_ite, ev_tup, ev_lst, ev_idx, ev_slc, ev_call, ev_blt, ev_mth, xs_ex, xs_set, xs_sub, xs_ret, xs_iff, bt_n, bt_t, b_carries, h1, h2, e0]
theorem after_ok (v : Valid ms ws is) (n : Now ms now) (p : Push ms is t) (k : Nat) (M : Mem) : ∃ N, C (k + 10) "after" [web ms ws is, tI now, tI t] M = .ok (tI (R3 ms ws now t)) (M ++ N) := by
  obtain ⟨N, h2⟩ := effect_ok v n p.len (k + 7) M
  refine ⟨N, ?_⟩
  rw [C, call_of f_after]
  have h1 := validate_ticks_ok v n p k M
  have e0 : atD [tI (Q3 ms ws now t), tI (R3 ms ws now t)] 1 = some (tI (R3 ms ws now t)) := atD_nat [tI (Q3 ms ws now t), tI (R3 ms ws now t)] 1
  generalize web ms ws is = W at *
  generalize tI (Q3 ms ws now t) = Q at *
  generalize tI (R3 ms ws now t) = R at *
  generalize tI now = D2 at *
  generalize tI t = D3 at *
  simp [xss, evo, tst, bindArg, mapO, startS, wipeS, ev_c, ev_v, ev_g, ev_bin, ev_nt, ev_cmp, ev_chn, ev_an, ev_orr, ev_ite, ev_tup, ev_lst, ev_idx, ev_slc, ev_call, ev_blt, ev_mth, xs_ex, xs_set, xs_sub, xs_ret, xs_iff, bt_n, bt_t, b_after, h1, h2, e0]
/-! ### the mathematics of an arrival -/
theorem keep_entry {ms now : List Int} {j : Nat} : ∀ {ws : List (Int × Int × Int)} {a : List Int}, (∀ w ∈ ws, w.2.1.toNat ≠ j) → nth (arr ms now ws a) j = nth a j
  | [], a, _ => rfl
  | w :: ws, a, h => by
    have e : arr ms now (w :: ws) a = arr ms now ws (stepW ms now a w) := rfl
    rw [e, keep_entry fun x hx => h x (List.mem_cons_of_mem _ hx)]
    unfold stepW
    have hw := h w List.mem_cons_self
    by_cases hl : w.2.1.toNat < a.length
    · rw [nth_set hl, if_neg hw]
    · rw [List.set_eq_of_length_le (by omega)]
/-- what comes in by the wires to v, carries told by c -/
def inflow (c : List Int) (ws : List (Int × Int × Int)) (v : Int) : Int := ((ws.filter fun w => w.2.1 == v).map fun w => w.2.2 * nth c w.1.toNat).sum
def car (ms now a : List Int) (u : Nat) : Int := (nth now u + nth a u) / nth ms u
theorem arr_eq {ms now : List Int} {n : Nat} : ∀ {ws : List (Int × Int × Int)} {a : List Int}, a.length = n → (∀ w ∈ ws, 0 ≤ w.1 ∧ w.1 < w.2.1 ∧ w.2.1 < n) → ws.Pairwise (fun x y => x.1 ≤ y.1) → ∀ v : Nat, v < n →
    nth (arr ms now ws a) v = nth a v + ((ws.filter fun w => w.2.1 == (v : Int)).map fun w => w.2.2 * car ms now (arr ms now ws a) w.1.toNat).sum
  | [], a, _, _, _, v, _ => by simp [xss, evo, tst, bindArg, mapO, startS, wipeS, ev_c, ev_v, ev_g, ev_bin, ev_nt, ev_cmp, ev_chn, ev_an, ev_orr, ev_ite, ev_tup, ev_lst, ev_idx, ev_slc, ev_call, ev_blt, ev_mth, xs_ex, xs_set, xs_sub, xs_ret, xs_iff, bt_n, bt_t, arr]
  | w :: ws, a, hl, hw, hp, v, hv => by
    have e : arr ms now (w :: ws) a = arr ms now ws (stepW ms now a w) := rfl
    obtain ⟨h1, h2⟩ := List.pairwise_cons.mp hp
    obtain ⟨q1, q2, q3⟩ := hw w List.mem_cons_self
    have ih := arr_eq (ms := ms) (now := now) (ws := ws) (a := stepW ms now a w) (by rw [stepW_len, hl]) (fun x hx => hw x (List.mem_cons_of_mem _ hx)) h2 v hv
    rw [e, ih]
    have ku : nth (arr ms now ws (stepW ms now a w)) w.1.toNat = nth a w.1.toNat := by
      rw [← e]
      refine keep_entry fun x hx => ?_
      obtain ⟨r1, r2, r3⟩ := hw x hx
      rcases List.mem_cons.mp hx with rfl | hx
      · omega
      · have := h1 x hx; omega
    have ev : nth (stepW ms now a w) v = nth a v + (if w.2.1 = (v : Int) then w.2.2 * car ms now (arr ms now ws (stepW ms now a w)) w.1.toNat else 0) := by
      unfold stepW
      rw [nth_set (by omega)]
      by_cases hx : w.2.1 = (v : Int)
      · rw [if_pos (by omega), if_pos hx]
        have : w.2.1.toNat = v := by omega
        rw [this]
        unfold car
        have ku' := ku
        unfold stepW at ku'
        rw [this] at ku'
        rw [ku']
      · rw [if_neg (by omega), if_neg hx]; omega
    rw [ev]
    by_cases hx : w.2.1 = (v : Int)
    · simp [xss, evo, tst, bindArg, mapO, startS, wipeS, ev_c, ev_v, ev_g, ev_bin, ev_nt, ev_cmp, ev_chn, ev_an, ev_orr, ev_ite, ev_tup, ev_lst, ev_idx, ev_slc, ev_call, ev_blt, ev_mth, xs_ex, xs_set, xs_sub, xs_ret, xs_iff, bt_n, bt_t, hx, List.filter_cons, Int.add_assoc]
    · simp [xss, evo, tst, bindArg, mapO, startS, wipeS, ev_c, ev_v, ev_g, ev_bin, ev_nt, ev_cmp, ev_chn, ev_an, ev_orr, ev_ite, ev_tup, ev_lst, ev_idx, ev_slc, ev_call, ev_blt, ev_mth, xs_ex, xs_set, xs_sub, xs_ret, xs_iff, bt_n, bt_t, hx, List.filter_cons]
end Mp.K07

set_option Elab.async false
set_option linter.all false
set_option maxRecDepth 100000
set_option maxHeartbeats 4000000
set_option autoImplicit false
namespace Mp.K07
open PySem PySem.Spec L2
variable {ms : List Int} {ws : List (Int × Int × Int)} {is now t : List Int}
theorem car_nth (n : Now ms now) (p : t.length = ms.length) {v : Nat} (h : v < ms.length) : nth (Q3 ms ws now t) v = car ms now (A3 ms ws now t) v ∧ nth (R3 ms ws now t) v = (nth now v + nth (A3 ms ws now t) v) % nth ms v := by
  have la : (A3 ms ws now t).length = ms.length := by rw [arr_len, p]
  have ln := n.len
  have e1 : (sums now (A3 ms ws now t))[v]? = some (nth now v + nth (A3 ms ws now t) v) := by
    unfold sums
    rw [List.getElem?_zipWith, at_nth (by omega : v < now.length), at_nth (by omega : v < (A3 ms ws now t).length)]
  have e2 : ms[v]? = some (nth ms v) := at_nth h
  refine ⟨nth_of ?_, nth_of ?_⟩
  · show (quo (sums now (A3 ms ws now t)) ms)[v]? = _
    unfold quo
    rw [List.getElem?_zipWith, e1, e2]
    rfl
  · show (rem (sums now (A3 ms ws now t)) ms)[v]? = _
    unfold rem
    rw [List.getElem?_zipWith, e1, e2]
theorem lens (n : Now ms now) (p : t.length = ms.length) : (A3 ms ws now t).length = ms.length ∧ (Q3 ms ws now t).length = ms.length ∧ (R3 ms ws now t).length = ms.length := by
  have la : (A3 ms ws now t).length = ms.length := by rw [arr_len, p]
  have ln := n.len
  refine ⟨la, ?_, ?_⟩
  · simp [xss, evo, tst, bindArg, mapO, startS, wipeS, ev_c, ev_v, ev_g, ev_bin, ev_nt, ev_cmp, ev_chn, ev_an, ev_orr, ev_ite, ev_tup, ev_lst, ev_idx, ev_slc, ev_call, ev_blt, ev_mth, xs_ex, xs_set, xs_sub, xs_ret, xs_iff, bt_n, bt_t, Q3, quo, sums, ln, la]
  · simp [xss, evo, tst, bindArg, mapO, startS, wipeS, ev_c, ev_v, ev_g, ev_bin, ev_nt, ev_cmp, ev_chn, ev_an, ev_orr, ev_ite, ev_tup, ev_lst, ev_idx, ev_slc, ev_call, ev_blt, ev_mth, xs_ex, xs_set, xs_sub, xs_ret, xs_iff, bt_n, bt_t, R3, rem, sums, ln, la]
theorem nth_take {l : List Int} {i j : Nat} (h : j < i) : nth (l.take i) j = nth l j := by
  unfold nth
  rw [List.getD_eq_getElem?_getD, List.getD_eq_getElem?_getD, List.getElem?_take_of_lt h]
theorem take_more {l : List Int} {i : Nat} (h : i < l.length) : l.take (i + 1) = l.take i ++ [nth l i] := by
  rw [List.take_add_one, at_nth h]; rfl
/-- the law's own sum -/
theorem flow_ok (v : Valid ms ws is) (n : Now ms now) (p : t.length = ms.length) {i : Nat} (hi : i < ms.length) : nth t i + ((ws.filter fun w => w.2.1 == (i : Int)).map fun w => w.2.2 * nth ((Q3 ms ws now t).take i) w.1.toNat).sum = nth (A3 ms ws now t) i := by
  have q := arr_eq (ms := ms) (now := now) (n := ms.length) (ws := ws) (a := t) p (fun w hw => by have := v.w w hw; omega) (v.ws.imp fun h => by omega) i hi
  show _ = nth (arr ms now ws t) i
  rw [q]
  congr 2
  refine List.map_congr_left fun w hw => ?_
  obtain ⟨h1, h2⟩ := List.mem_filter.mp hw
  have hv := v.w w h1
  have h3 : w.2.1 = (i : Int) := by simpa [xss, evo, tst, bindArg, mapO, startS, wipeS, ev_c, ev_v, ev_g, ev_bin, ev_nt, ev_cmp, ev_chn, ev_an, ev_orr, ev_ite, ev_tup, ev_lst, ev_idx, ev_slc, ev_call, ev_blt, ev_mth, xs_ex, xs_set, xs_sub, xs_ret, xs_iff, bt_n, bt_t] using h2
  rw [nth_take (by omega), (car_nth (ws := ws) n p (by omega)).1]
end Mp.K07

set_option Elab.async false
set_option linter.all false
set_option maxRecDepth 100000
set_option maxHeartbeats 4000000
set_option autoImplicit false
namespace Mp.K07
open PySem PySem.Spec L2
variable {ms : List Int} {ws : List (Int × Int × Int)} {is now t : List Int}
def wP (i : Nat) : D → Bool
  | .tup [_, .int x, _] => x == (i : Int)
  | _ => false
def wH (c : List Int) : D → D
  | .tup [.int u, _, .int w] => .int (w * nth c u.toNat)
  | _ => .non
theorem wPH (i : Nat) (c : List Int) : ∀ ws : List (Int × Int × Int), ((ws.map encW).filter (wP i)).map (wH c) = ((ws.filter fun w => w.2.1 == (i : Int)).map fun w => w.2.2 * nth c w.1.toNat).map .int
  | [] => rfl
  | w :: ws => by
    have ih := wPH i c ws
    have e1 : wP i (encW w) = (w.2.1 == (i : Int)) := rfl
    have e2 : wH c (encW w) = .int (w.2.2 * nth c w.1.toNat) := rfl
    rw [List.map_cons, List.filter_cons, List.filter_cons, e1]
    split
    · rw [List.map_cons, List.map_cons, List.map_cons, ih, e2]
    · exact ih
def bodyP : Sms := (.cons (.set (.t (.n 8)) (.bin .add (.idx (.v 2) (.v 6)) (.blt .sum (.cons (.lc [9, 10, 11, 12] (.t [10, 11, 12]) (.e (.idx (.v 0) (.c (.int (1))))) (.cons (.cmp .eq (.v 11) (.v 6)) .nil) (.bin .mul (.v 12) (.idx (.v 4) (.v 10)))) .nil)))) (.cons (.ex (.mth .append (.v 3) (.cons (.v 8) .nil))) (.cons (.ex (.mth .append (.v 4) (.cons (.bin .fdiv (.bin .add (.idx (.v 1) (.v 6)) (.v 8)) (.v 7)) .nil))) (.cons (.ex (.mth .append (.v 5) (.cons (.bin .mod (.bin .add (.idx (.v 1) (.v 6)) (.v 8)) (.v 7)) .nil))) .nil))))
def T3 (A Q R : List Int) (i : Nat) (J : Mem) : Mem := .lst ((A.take i).map .int) :: .lst ((Q.take i).map .int) :: .lst ((R.take i).map .int) :: J
abbrev slP (W D2 D3 : D) (n : Nat) (a b c : Option D) : S := [some W, some D2, some D3, some (.ref n), some (.ref (n + 1)), some (.ref (n + 2)), a, b, c, none, none, none, none]
theorem pushed_turn (v : Valid ms ws is) (n : Now ms now) (p : t.length = ms.length) (wl : ws.length ≤ 1000) (k : Nat) (M J : Mem) (c : Option D) {i : Nat} (hi : i < ms.length) : ∃ J' x, xss (g k) bodyP (slP (web ms ws is) (tI now) (tI t) M.length (some (.int (i : Nat))) (some (.int (nth ms i))) c) (M ++ T3 (A3 ms ws now t) (Q3 ms ws now t) (R3 ms ws now t) i J)
    = .nx (slP (web ms ws is) (tI now) (tI t) M.length (some (.int (i : Nat))) (some (.int (nth ms i))) x) (M ++ T3 (A3 ms ws now t) (Q3 ms ws now t) (R3 ms ws now t) (i + 1) J') := by
  obtain ⟨la, lq, lr⟩ := lens (ws := ws) n p
  have flow := flow_ok v n p hi
  have cars := car_nth (ws := ws) n p hi
  have hm := v.m _ (nth_mem hi)
  have ln := n.len
  generalize hA : A3 ms ws now t = A at *
  generalize hQ : Q3 ms ws now t = Q at *
  generalize hR : R3 ms ws now t = R at *
  have e1 : atD [tI ms, .tup (ws.map encW), tI is] 1 = some (.tup (ws.map encW)) := atD_nat [tI ms, .tup (ws.map encW), tI is] 1
  have e2 : atD (t.map D.int) (i : Int) = some (.int (nth t i)) := by rw [atD_nat, at_int (by omega)]
  have e3 : atD (now.map D.int) (i : Int) = some (.int (nth now i)) := by rw [atD_nat, at_int (by omega)]
  let X := M ++ T3 A Q R i J
  have gQ : X[M.length + 1]? = some (.lst ((Q.take i).map .int)) := app_get M _ 1
  have c1 : ev (g k) (.lc [9, 10, 11, 12] (.t [10, 11, 12]) (.e (.idx (.v 0) (.c (.int (1))))) (.cons (.cmp .eq (.v 11) (.v 6)) .nil) (.bin .mul (.v 12) (.idx (.v 4) (.v 10)))) (slP (web ms ws is) (tI now) (tI t) M.length (some (.int (i : Nat))) (some (.int (nth ms i))) c) X
      = .ok (.ref X.length) (X ++ [.lst (((ws.filter fun w => w.2.1 == (i : Int)).map fun w => w.2.2 * nth (Q.take i) w.1.toNat).map .int)]) := by
    have q := ev_lc_filt (G := g k) (σ := slP (web ms ws is) (tI now) (tI t) M.length (some (.int (i : Nat))) (some (.int (nth ms i))) c) (M := X) (M1 := X) (vs := [9, 10, 11, 12]) (t := .t [10, 11, 12]) (it := .e (.idx (.v 0) (.c (.int (1))))) (c := .cons (.cmp .eq (.v 11) (.v 6)) .nil) (e := .bin .mul (.v 12) (.idx (.v 4) (.v 10))) (i := .one (.snap (ws.map encW))) (its := ws.map encW) (p := wP i) (h := wH (Q.take i))
      (evi_e (x := .tup (ws.map encW)) (by simp [xss, evo, tst, bindArg, mapO, startS, wipeS, ev_c, ev_v, ev_g, ev_bin, ev_nt, ev_cmp, ev_chn, ev_an, ev_orr, ev_ite, ev_tup, ev_lst, ev_idx, ev_slc, ev_call, ev_blt, ev_mth, xs_ex, xs_set, xs_sub, xs_ret, xs_iff, bt_n, bt_t, e1]) rfl) rfl (fun _ => rfl) (by simpa [xss, evo, tst, bindArg, mapO, startS, wipeS, ev_c, ev_v, ev_g, ev_bin, ev_nt, ev_cmp, ev_chn, ev_an, ev_orr, ev_ite, ev_tup, ev_lst, ev_idx, ev_slc, ev_call, ev_blt, ev_mth, xs_ex, xs_set, xs_sub, xs_ret, xs_iff, bt_n, bt_t] using wl) ?_
    · rw [wPH] at q
      exact q
    · intro x hx acc
      obtain ⟨w, hw, rfl⟩ := List.mem_map.mp hx
      have q := v.w w hw
      refine ⟨_, rfl, ?_⟩
      by_cases hx : w.2.1 = (i : Int)
      · left
        obtain ⟨un, hu⟩ := Int.eq_ofNat_of_zero_le (show 0 ≤ w.1 by omega)
        have hlt : un < i := by omega
        have g2 : (X ++ [MO.lst acc])[M.length + 1]? = some (.lst ((Q.take i).map .int)) := by
          rw [List.getElem?_append_left (List.getElem?_eq_some_iff.mp gQ).1, gQ]
        have e4 : idxD (.ref (M.length + 1)) (.int w.1) (X ++ [MO.lst acc]) = some (.int (nth (Q.take i) un)) := by
          rw [hu, idx_lst g2, atD_nat, at_int (by rw [List.length_take]; omega)]
        have e5 : w.1.toNat = un := by omega
        refine ⟨by simp [xss, evo, tst, bindArg, mapO, startS, wipeS, ev_c, ev_v, ev_g, ev_bin, ev_nt, ev_cmp, ev_chn, ev_an, ev_orr, ev_ite, ev_tup, ev_lst, ev_idx, ev_slc, ev_call, ev_blt, ev_mth, xs_ex, xs_set, xs_sub, xs_ret, xs_iff, bt_n, bt_t, wP, encW, hx], by simp [xss, evo, tst, bindArg, mapO, startS, wipeS, ev_c, ev_v, ev_g, ev_bin, ev_nt, ev_cmp, ev_chn, ev_an, ev_orr, ev_ite, ev_tup, ev_lst, ev_idx, ev_slc, ev_call, ev_blt, ev_mth, xs_ex, xs_set, xs_sub, xs_ret, xs_iff, bt_n, bt_t, evc, encW, hx], ?_⟩
        have m5 := mul_int (X ++ [MO.lst acc]) w.2.2 (nth (Q.take i) un) (mul_small (show -1000000 ≤ w.2.2 by omega) (show w.2.2 ≤ 1000000 by omega))
        simp [xss, evo, tst, bindArg, mapO, startS, wipeS, ev_c, ev_v, ev_g, ev_bin, ev_nt, ev_cmp, ev_chn, ev_an, ev_orr, ev_ite, ev_tup, ev_lst, ev_idx, ev_slc, ev_call, ev_blt, ev_mth, xs_ex, xs_set, xs_sub, xs_ret, xs_iff, bt_n, bt_t, encW, wH, e4, e5, m5]
      · right
        exact ⟨by simp [xss, evo, tst, bindArg, mapO, startS, wipeS, ev_c, ev_v, ev_g, ev_bin, ev_nt, ev_cmp, ev_chn, ev_an, ev_orr, ev_ite, ev_tup, ev_lst, ev_idx, ev_slc, ev_call, ev_blt, ev_mth, xs_ex, xs_set, xs_sub, xs_ret, xs_iff, bt_n, bt_t, wP, encW, hx], by simp [xss, evo, tst, bindArg, mapO, startS, wipeS, ev_c, ev_v, ev_g, ev_bin, ev_nt, ev_cmp, ev_chn, ev_an, ev_orr, ev_ite, ev_tup, ev_lst, ev_idx, ev_slc, ev_call, ev_blt, ev_mth, xs_ex, xs_set, xs_sub, xs_ret, xs_iff, bt_n, bt_t, evc, encW, hx]⟩
  have hS := sum_lst (M := X ++ [.lst (((ws.filter fun w => w.2.1 == (i : Int)).map fun w => w.2.2 * nth (Q.take i) w.1.toNat).map .int)]) (last_get _ _)
  generalize ((ws.filter fun w => w.2.1 == (i : Int)).map fun w => w.2.2 * nth (Q.take i) w.1.toNat) = F at c1 hS flow
  have h1000 : 1000 < sizeLine := by decide
  have n2 := v.n2
  let J1 := J ++ [MO.lst (F.map .int)]
  have eX : X ++ [MO.lst (F.map .int)] = M ++ (.lst ((A.take i).map .int) :: .lst ((Q.take i).map .int) :: .lst ((R.take i).map .int) :: J1) := by
    show (M ++ T3 A Q R i J) ++ _ = _
    rw [List.append_assoc]; rfl
  rw [eX] at c1 hS
  have k1 : (M ++ (MO.lst ((A.take i).map .int) :: .lst ((Q.take i).map .int) :: .lst ((R.take i).map .int) :: J1))[M.length]? = some (.lst ((A.take i).map .int)) := app_get M _ 0
  have w1 : (M ++ (MO.lst ((A.take i).map .int) :: .lst ((Q.take i).map .int) :: .lst ((R.take i).map .int) :: J1)).set M.length (.lst ((A.take i).map .int ++ [.int (nth A i)])) = M ++ (.lst ((A.take i).map .int ++ [.int (nth A i)]) :: .lst ((Q.take i).map .int) :: .lst ((R.take i).map .int) :: J1) := app_set M _ 0 _
  have k2 : (M ++ (MO.lst ((A.take i).map .int ++ [.int (nth A i)]) :: .lst ((Q.take i).map .int) :: .lst ((R.take i).map .int) :: J1))[M.length + 1]? = some (.lst ((Q.take i).map .int)) := app_get M _ 1
  have w2 : (M ++ (MO.lst ((A.take i).map .int ++ [.int (nth A i)]) :: .lst ((Q.take i).map .int) :: .lst ((R.take i).map .int) :: J1)).set (M.length + 1) (.lst ((Q.take i).map .int ++ [.int (nth Q i)])) = M ++ (.lst ((A.take i).map .int ++ [.int (nth A i)]) :: .lst ((Q.take i).map .int ++ [.int (nth Q i)]) :: .lst ((R.take i).map .int) :: J1) := app_set M _ 1 _
  have k3 : (M ++ (MO.lst ((A.take i).map .int ++ [.int (nth A i)]) :: .lst ((Q.take i).map .int ++ [.int (nth Q i)]) :: .lst ((R.take i).map .int) :: J1))[M.length + 2]? = some (.lst ((R.take i).map .int)) := app_get M _ 2
  have w3 : (M ++ (MO.lst ((A.take i).map .int ++ [.int (nth A i)]) :: .lst ((Q.take i).map .int ++ [.int (nth Q i)]) :: .lst ((R.take i).map .int) :: J1)).set (M.length + 2) (.lst ((R.take i).map .int ++ [.int (nth R i)])) = M ++ (.lst ((A.take i).map .int ++ [.int (nth A i)]) :: .lst ((Q.take i).map .int ++ [.int (nth Q i)]) :: .lst ((R.take i).map .int ++ [.int (nth R i)]) :: J1) := app_set M _ 2 _
  have fin : M ++ (MO.lst ((A.take i).map .int ++ [.int (nth A i)]) :: .lst ((Q.take i).map .int ++ [.int (nth Q i)]) :: .lst ((R.take i).map .int ++ [.int (nth R i)]) :: J1) = M ++ T3 A Q R (i + 1) J1 := by
    unfold T3
    rw [take_more (by omega), take_more (by omega), take_more (by omega)]
    simp [xss, evo, tst, bindArg, mapO, startS, wipeS, ev_c, ev_v, ev_g, ev_bin, ev_nt, ev_cmp, ev_chn, ev_an, ev_orr, ev_ite, ev_tup, ev_lst, ev_idx, ev_slc, ev_call, ev_blt, ev_mth, xs_ex, xs_set, xs_sub, xs_ret, xs_iff, bt_n, bt_t]
  have l1 : ((A.take i).map D.int).length < sizeLine := by simp [xss, evo, tst, bindArg, mapO, startS, wipeS, ev_c, ev_v, ev_g, ev_bin, ev_nt, ev_cmp, ev_chn, ev_an, ev_orr, ev_ite, ev_tup, ev_lst, ev_idx, ev_slc, ev_call, ev_blt, ev_mth, xs_ex, xs_set, xs_sub, xs_ret, xs_iff, bt_n, bt_t]; omega
  have l2 : ((Q.take i).map D.int).length < sizeLine := by simp [xss, evo, tst, bindArg, mapO, startS, wipeS, ev_c, ev_v, ev_g, ev_bin, ev_nt, ev_cmp, ev_chn, ev_an, ev_orr, ev_ite, ev_tup, ev_lst, ev_idx, ev_slc, ev_call, ev_blt, ev_mth, xs_ex, xs_set, xs_sub, xs_ret, xs_iff, bt_n, bt_t]; omega
  have l3 : ((R.take i).map D.int).length < sizeLine := by simp [xss, evo, tst, bindArg, mapO, startS, wipeS, ev_c, ev_v, ev_g, ev_bin, ev_nt, ev_cmp, ev_chn, ev_an, ev_orr, ev_ite, ev_tup, ev_lst, ev_idx, ev_slc, ev_call, ev_blt, ev_mth, xs_ex, xs_set, xs_sub, xs_ret, xs_iff, bt_n, bt_t]; omega
  have a1 := append_lst (d := .int (nth A i)) k1 l1
  have a2 := append_lst (d := .int (nth Q i)) k2 l2
  have a3 := append_lst (d := .int (nth R i)) k3 l3
  rw [w1] at a1
  rw [w2] at a2
  rw [w3] at a3
  have i1 := isL_of k1
  have i2 := isL_of k2
  have i3 := isL_of k3
  have f1 := fdiv_int (M ++ (.lst ((A.take i).map .int ++ [.int (nth A i)]) :: .lst ((Q.take i).map .int) :: .lst ((R.take i).map .int) :: J1)) (nth now i + nth A i) (nth ms i) (by omega) (log_small hm.2 (by omega))
  have f2 := mod_int (M ++ (.lst ((A.take i).map .int ++ [.int (nth A i)]) :: .lst ((Q.take i).map .int ++ [.int (nth Q i)]) :: .lst ((R.take i).map .int) :: J1)) (nth now i + nth A i) (nth ms i) (by omega)
  have q1 : (nth now i + nth A i) / nth ms i = nth Q i := cars.1.symm
  have q2 : (nth now i + nth A i) % nth ms i = nth R i := cars.2.symm
  rw [q1] at f1
  rw [q2] at f2
  refine ⟨J1, some (.int (nth A i)), ?_⟩
  rw [← fin]
  generalize M ++ (MO.lst ((A.take i).map .int ++ [.int (nth A i)]) :: .lst ((Q.take i).map .int ++ [.int (nth Q i)]) :: .lst ((R.take i).map .int ++ [.int (nth R i)]) :: J1) = Y3 at *
  generalize M ++ (MO.lst ((A.take i).map .int ++ [.int (nth A i)]) :: .lst ((Q.take i).map .int ++ [.int (nth Q i)]) :: .lst ((R.take i).map .int) :: J1) = Y2 at *
  generalize M ++ (MO.lst ((A.take i).map .int ++ [.int (nth A i)]) :: .lst ((Q.take i).map .int) :: .lst ((R.take i).map .int) :: J1) = Y1 at *
  generalize M ++ (MO.lst ((A.take i).map .int) :: .lst ((Q.take i).map .int) :: .lst ((R.take i).map .int) :: J1) = Y0 at *
  show xss (g k) bodyP _ X = _
  generalize X = X0 at *
  generalize web ms ws is = W at *
  simp only [slP] at c1 ⊢
  simp [xss, evo, tst, bindArg, mapO, startS, wipeS, ev_c, ev_v, ev_g, ev_bin, ev_nt, ev_cmp, ev_chn, ev_an, ev_orr, ev_ite, ev_tup, ev_lst, ev_idx, ev_slc, ev_call, ev_blt, ev_mth, xs_ex, xs_set, xs_sub, xs_ret, xs_iff, bt_n, bt_t, bodyP, c1, hS, e2, e3, flow, i1, i2, i3, a1, a2, a3, f1, f2]
end Mp.K07

set_option Elab.async false
set_option linter.all false
set_option maxRecDepth 100000
set_option maxHeartbeats 4000000
set_option autoImplicit false
namespace Mp.K07
open PySem PySem.Spec L2
variable {ms : List Int} {ws : List (Int × Int × Int)} {is now t : List Int}
theorem pushed_ok (v : Valid ms ws is) (n : Now ms now) (p : t.length = ms.length) (wl : ws.length ≤ 1000) (k : Nat) (M : Mem) : ∃ N, C (k + 1) "_law_pushed" [web ms ws is, tI now, tI t] M = .ok (.tup [tI (A3 ms ws now t), tI (Q3 ms ws now t), tI (R3 ms ws now t)]) (M ++ N) := by
  rw [C, call_of f__law_pushed]
  obtain ⟨la, lq, lr⟩ := lens (ws := ws) n p
  have e0 : atD [tI ms, .tup (ws.map encW), tI is] 0 = some (tI ms) := atD_nat [tI ms, .tup (ws.map encW), tI is] 0
  let A := A3 ms ws now t
  let Q := Q3 ms ws now t
  let R := R3 ms ws now t
  have step : ∀ (i : Nat) (d : D) (σ : S) (M' : Mem), (ms.map D.int)[i]? = some d → (∃ J a b c, M' = M ++ T3 A Q R i J ∧ σ = slP (web ms ws is) (tI now) (tI t) M.length a b c) → ∃ σ1 σ2 M2, bindT (.t [6, 7]) (.tup [.int (i : Nat), d]) σ = some σ1 ∧ (xss (g k) bodyP σ1 M' = .nx σ2 M2 ∨ xss (g k) bodyP σ1 M' = .ct σ2 M2) ∧ ∃ J a b c, M2 = M ++ T3 A Q R (i + 1) J ∧ σ2 = slP (web ms ws is) (tI now) (tI t) M.length a b c := by
    rintro i d σ M' hd ⟨J, a, b, c, rfl, rfl⟩
    obtain ⟨m, hm, em, rfl⟩ := get_ints hd
    have hi := (List.getElem?_eq_some_iff.mp em).1
    obtain ⟨J', x, q⟩ := pushed_turn v n p wl k M J c hi
    rw [nth_of em] at q
    exact ⟨_, _, _, rfl, .inl q, J', _, _, _, rfl, rfl⟩
  obtain ⟨σ', M', h1, J, a, b, c, rfl, rfl⟩ := fr_enum (g := bindT (.t [6, 7])) (b := xss (g k) bodyP) (l := ms.map D.int) (fun i σ M' => ∃ J a b c, M' = M ++ T3 A Q R i J ∧ σ = slP (web ms ws is) (tI now) (tI t) M.length a b c) (σ := slP (web ms ws is) (tI now) (tI t) M.length none none none) (M := M ++ T3 A Q R 0 []) ⟨[], none, none, none, rfl, rfl⟩ step
  have hev : evi (g k) (.enum (.idx (.v 0) (.c (.int (0))))) (slP (web ms ws is) (tI now) (tI t) M.length none none none) (M ++ T3 A Q R 0 []) = .ok (.enum (.snap (ms.map .int))) (M ++ T3 A Q R 0 []) := evi_enum (x := tI ms) (by simp [xss, evo, tst, bindArg, mapO, startS, wipeS, ev_c, ev_v, ev_g, ev_bin, ev_nt, ev_cmp, ev_chn, ev_an, ev_orr, ev_ite, ev_tup, ev_lst, ev_idx, ev_slc, ev_call, ev_blt, ev_mth, xs_ex, xs_set, xs_sub, xs_ret, xs_iff, bt_n, bt_t, e0]) rfl
  rw [List.length_map] at h1
  have tk : ∀ l : List Int, l.length = ms.length → l.take ms.length = l := fun l h => List.take_of_length_le (by omega)
  have eT : T3 A Q R ms.length J = .lst (A.map .int) :: .lst (Q.map .int) :: .lst (R.map .int) :: J := by
    unfold T3
    rw [tk A la, tk Q lq, tk R lr]
  rw [eT] at h1
  have hx : xs (g k) (.fr (.t [6, 7]) (.enum (.idx (.v 0) (.c (.int (0))))) bodyP) (slP (web ms ws is) (tI now) (tI t) M.length none none none) (M ++ T3 A Q R 0 []) = .nx (slP (web ms ws is) (tI now) (tI t) M.length a b c) (M ++ (.lst (A.map .int) :: .lst (Q.map .int) :: .lst (R.map .int) :: J)) := xs_fr hev rfl (by rw [List.length_mapIdx, List.length_map]; exact h1)
  have t1 : bfn .tuple [.ref M.length] (M ++ (.lst (A.map .int) :: .lst (Q.map .int) :: .lst (R.map .int) :: J)) = .ok (tI A) _ := tup_lst (app_get M _ 0)
  have t2 : bfn .tuple [.ref (M.length + 1)] (M ++ (.lst (A.map .int) :: .lst (Q.map .int) :: .lst (R.map .int) :: J)) = .ok (tI Q) _ := tup_lst (app_get M _ 1)
  have t3 : bfn .tuple [.ref (M.length + 2)] (M ++ (.lst (A.map .int) :: .lst (Q.map .int) :: .lst (R.map .int) :: J)) = .ok (tI R) _ := tup_lst (app_get M _ 2)
  refine ⟨.lst (A.map .int) :: .lst (Q.map .int) :: .lst (R.map .int) :: J, ?_⟩
  have e00 : M ++ T3 A Q R 0 [] = M ++ [.lst [], .lst [], .lst []] := rfl
  rw [e00] at hx
  have eb : b__law_pushed = .cons (.set (.t (.t [3, 4, 5])) (.tup (.cons (.lst .nil) (.cons (.lst .nil) (.cons (.lst .nil) .nil))))) (.cons (.fr (.t [6, 7]) (.enum (.idx (.v 0) (.c (.int (0))))) bodyP) (.cons (.ret (.tup (.cons (.blt .tuple (.cons (.v 3) .nil)) (.cons (.blt .tuple (.cons (.v 4) .nil)) (.cons (.blt .tuple (.cons (.v 5) .nil)) .nil))))) .nil)) := rfl
  generalize M ++ (MO.lst (A.map .int) :: .lst (Q.map .int) :: .lst (R.map .int) :: J) = Z at *
  show _ = Res.ok (D.tup [tI A, tI Q, tI R]) Z
  generalize web ms ws is = W at *
  generalize tI A = a1 at *
  generalize tI Q = a2 at *
  generalize tI R = a3 at *
  generalize tI now = d2 at *
  generalize tI t = d3 at *
  simp only [slP] at hx
  simp [xss, evo, tst, bindArg, mapO, startS, wipeS, ev_c, ev_v, ev_g, ev_bin, ev_nt, ev_cmp, ev_chn, ev_an, ev_orr, ev_ite, ev_tup, ev_lst, ev_idx, ev_slc, ev_call, ev_blt, ev_mth, xs_ex, xs_set, xs_sub, xs_ret, xs_iff, bt_n, bt_t, eb, hx, t1, t2, t3]
end Mp.K07

set_option Elab.async false
set_option linter.all false
set_option maxRecDepth 100000
set_option maxHeartbeats 4000000
set_option autoImplicit false
namespace Mp.K07
open PySem PySem.Spec L2
variable {ms : List Int} {ws : List (Int × Int × Int)} {is now t : List Int}
def X10 (i : Nat) : Nat := 10 ^ 41 * 100000 ^ i
theorem X10_le (i : Nat) : 10 ^ 41 ≤ X10 i := Nat.le_mul_of_pos_right _ (Nat.pow_pos (by decide))
theorem X10_succ (i : Nat) : X10 (i + 1) = 100000 * X10 i := by unfold X10; rw [Nat.pow_succ]; omega
theorem arr_size (v : Valid ms ws is) (n : Now ms now) (p : Push ms is t) (wl : ws.length ≤ 100) : ∀ i, i ≤ ms.length → ∀ u, u < i → (nth (A3 ms ws now t) u).natAbs ≤ X10 i
  | 0, _, u, h => by omega
  | i + 1, hi, u, h => by
    have ih := arr_size v n p wl i (by omega)
    have h1 := X10_le i
    have h2 := X10_succ i
    by_cases hu : u < i
    · have := ih u hu; omega
    · have e : u = i := by omega
      subst e
      have q := arr_eq (ms := ms) (now := now) (n := ms.length) (ws := ws) (a := t) p.len (fun w hw => by have := v.w w hw; omega) (v.ws.imp fun h => by omega) u (by omega)
      show (nth (arr ms now ws t) u).natAbs ≤ _
      rw [q]
      have tb := p.ok u _ (at_nth (by rw [p.len]; omega))
      have sb := sum_abs (B := 100 * (1000 + X10 u)) (l := (ws.filter fun w => w.2.1 == (u : Int)).map fun w => w.2.2 * car ms now (arr ms now ws t) w.1.toNat) (by
        intro x hx
        obtain ⟨w, hw, rfl⟩ := List.mem_map.mp hx
        obtain ⟨hw1, hw2⟩ := List.mem_filter.mp hw
        have qv := v.w w hw1
        have hw3 : w.2.1 = (u : Int) := by simpa using hw2
        have iu := ih w.1.toNat (by omega)
        have hn := n.ok w.1.toNat _ _ (at_nth (by omega : w.1.toNat < ms.length)) (at_nth (by rw [n.len]; omega))
        have hm := v.m _ (nth_mem (by omega : w.1.toNat < ms.length))
        have cb : (car ms now (arr ms now ws t) w.1.toNat).natAbs ≤ 1000 + X10 u := by
          unfold car
          refine Nat.le_trans (Int.natAbs_ediv_le_natAbs _ _) ?_
          have := Int.natAbs_add_le (nth now w.1.toNat) (nth (arr ms now ws t) w.1.toNat)
          have iu' : (nth (arr ms now ws t) w.1.toNat).natAbs ≤ X10 u := iu
          omega
        rw [Int.natAbs_mul]
        exact Nat.mul_le_mul (by omega) cb)
      have lb : ((ws.filter fun w => w.2.1 == (u : Int)).map fun w => w.2.2 * car ms now (arr ms now ws t) w.1.toNat).length ≤ 100 := by
        rw [List.length_map]
        exact Nat.le_trans (List.length_filter_le _ _) wl
      have mb := Nat.mul_le_mul_left (100 * (1000 + X10 u)) lb
      have ab := Int.natAbs_add_le (nth t u) ((ws.filter fun w => w.2.1 == (u : Int)).map fun w => w.2.2 * car ms now (arr ms now ws t) w.1.toNat).sum
      omega
theorem X10_10 : 2 * X10 10 < 2 ^ 1000 := by decide +kernel
theorem mem_nth {l : List Int} {x : Int} (h : x ∈ l) : ∃ i, i < l.length ∧ nth l i = x := by
  obtain ⟨i, hi, e⟩ := List.mem_iff_getElem.mp h
  exact ⟨i, hi, by rw [nth_eq hi, e]⟩
theorem bigs (v : Valid ms ws is) (n : Now ms now) (p : Push ms is t) (wl : ws.length ≤ 100) : (∀ x ∈ A3 ms ws now t, Big x) ∧ (∀ x ∈ Q3 ms ws now t, Big x) ∧ ∀ x ∈ R3 ms ws now t, Big x := by
  obtain ⟨la, lq, lr⟩ := lens (ws := ws) n p.len
  have sz := arr_size v n p wl ms.length (Nat.le_refl _)
  have mono : X10 ms.length ≤ X10 10 := Nat.mul_le_mul_left _ (Nat.pow_le_pow_right (by decide) v.n2)
  have b1 := X10_10
  have b2 := X10_le 10
  refine ⟨fun x hx => ?_, fun x hx => ?_, fun x hx => ?_⟩
  · obtain ⟨i, hi, rfl⟩ := mem_nth hx
    have := sz i (by omega)
    exact big_of (by omega)
  · obtain ⟨i, hi, rfl⟩ := mem_nth hx
    have hi' : i < ms.length := by omega
    have s1 := sz i hi'
    have hn := n.ok i _ _ (at_nth hi') (at_nth (by rw [n.len]; exact hi'))
    have hm := v.m _ (nth_mem hi')
    rw [(car_nth (ws := ws) n p.len hi').1]
    refine big_of (Nat.lt_of_le_of_lt (Int.natAbs_ediv_le_natAbs _ _) ?_)
    have := Int.natAbs_add_le (nth now i) (nth (A3 ms ws now t) i)
    omega
  · obtain ⟨i, hi, rfl⟩ := mem_nth hx
    have hi' : i < ms.length := by omega
    have hm := v.m _ (nth_mem hi')
    rw [(car_nth (ws := ws) n p.len hi').2]
    have h1 := Int.emod_nonneg (nth now i + nth (A3 ms ws now t) i) (by omega : nth ms i ≠ 0)
    have h2 := Int.emod_lt_of_pos (nth now i + nth (A3 ms ws now t) i) (by omega : 0 < nth ms i)
    refine big_of ?_
    have : (1000 : Nat) < 2 ^ 1000 := by decide +kernel
    omega
end Mp.K07

set_option Elab.async false
set_option linter.all false
set_option maxRecDepth 100000
set_option maxHeartbeats 4000000
set_option autoImplicit false
namespace Mp.K07
open PySem PySem.Spec L2
variable {ms : List Int} {ws : List (Int × Int × Int)} {is now t : List Int}
def wPD (w : Int × Int × Int) : PyData := .tuple [.int w.1, .int w.2.1, .int w.2.2]
abbrev tP (l : List Int) : PyData := .tuple (l.map .int)
def webP (ms : List Int) (ws : List (Int × Int × Int)) (is : List Int) : PyData := .tuple [tP ms, .tuple (ws.map wPD), tP is]
theorem rd_web (k : Nat) (M : Mem) : rd (k + 4) M (web ms ws is) = some (webP ms ws is) := by
  have h1 := rd_tup (k + 1) M ms
  have h3 := rd_tup (k + 1) M is
  have h2 : rd (k + 3) M (.tup (ws.map encW)) = some (.tuple (ws.map wPD)) := by
    show (mapO (rd (k + 2) M) (ws.map encW)).map PyData.tuple = _
    rw [mapO_map (f := rd (k + 2) M) (h := encW) (e := wPD) fun w => rfl]
    rfl
  show (mapO (rd (k + 3) M) [tI ms, .tup (ws.map encW), tI is]).map PyData.tuple = _
  simp only [mapO, h2]
  simp only [tI, h1, h3]
  rfl
theorem show_ints {l : List Int} {n : Nat} (h : ∀ x ∈ l, Big x) (hn : l.length ≤ n) : Show (tP l) n := ((Shows.ints h).more hn).tup
theorem small_big {x : Int} (h : x.natAbs ≤ 10000000000000000000000000000000000000000) : Big x := big_of (by
  have : (10000000000000000000000000000000000000000 : Nat) < 2 ^ 1000 := by decide +kernel
  omega)
structure Fine (ms : List Int) (ws : List (Int × Int × Int)) (is now t : List Int) : Prop where
  v : Valid ms ws is
  n : Now ms now
  p : Push ms is t
  wl : ws.length ≤ 100
  il : is.length ≤ 10
theorem show_args (F : Fine ms ws is now t) : Show (.list [webP ms ws is, tP now, tP t]) 8000 := by
  have b1 : Show (tP ms) 10 := show_ints (fun x hx => by have := F.v.m x hx; exact small_big (by omega)) F.v.n2
  have b2 : Show (tP is) 10 := show_ints (fun x hx => by have := F.v.i x hx; have := F.v.n2; exact small_big (by omega)) F.il
  have b3 : Show (tP now) 10 := show_ints (fun x hx => by
    obtain ⟨i, hi, rfl⟩ := mem_nth hx
    have hi' : i < ms.length := by rw [← F.n.len]; exact hi
    have q := F.n.ok i _ _ (at_nth hi') (at_nth hi)
    have hm := F.v.m _ (nth_mem hi')
    exact small_big (by omega)) (by rw [F.n.len]; exact F.v.n2)
  have b4 : Show (tP t) 10 := show_ints (fun x hx => by
    obtain ⟨i, hi, rfl⟩ := mem_nth hx
    have q := F.p.ok i _ (at_nth hi)
    exact small_big (by omega)) (by rw [F.p.len]; exact F.v.n2)
  have b5 : Show (.tuple (ws.map wPD)) 400 := ((Shows.map (f := wPD) (k := 3) fun w hw => (Shows.cons (Show.int (small_big (by have := F.v.w w hw; have := F.v.n2; omega))) (Shows.cons (Show.int (small_big (by have := F.v.w w hw; have := F.v.n2; omega))) (Shows.cons (Show.int (small_big (by have := F.v.w w hw; omega))) Shows.nil))).tup).more (by have := F.wl; omega)).tup
  have b6 : Show (webP ms ws is) 500 := ((Shows.cons b1 (Shows.cons b5 (Shows.cons b2 Shows.nil))).more (by omega)).tup
  exact ((Shows.cons b6 (Shows.cons b3 (Shows.cons b4 Shows.nil))).more (by omega)).lst
theorem show_found (F : Fine ms ws is now t) : Show (.tuple [tP (A3 ms ws now t), tP (Q3 ms ws now t), tP (R3 ms ws now t)]) 8000 := by
  obtain ⟨la, lq, lr⟩ := lens (ws := ws) F.n F.p.len
  obtain ⟨g1, g2, g3⟩ := bigs F.v F.n F.p F.wl
  have n2 := F.v.n2
  exact ((Shows.cons (show_ints (n := 10) g1 (by omega)) (Shows.cons (show_ints (n := 10) g2 (by omega)) (Shows.cons (show_ints (n := 10) g3 (by omega)) Shows.nil))).more (by omega)).tup
theorem repr_args (F : Fine ms ws is now t) (M : Mem) : bfn .repr [.ref M.length] (M ++ [.lst [web ms ws is, tI now, tI t]]) = .ok (.str (PyData.list [webP ms ws is, tP now, tP t]).shown) (M ++ [.lst [web ms ws is, tI now, tI t]]) := by
  refine repr_ok ?_ (show_args F) (Nat.le_refl _)
  have h1 := rd_web (ms := ms) (ws := ws) (is := is) 35 (M ++ [.lst [web ms ws is, tI now, tI t]])
  have h2 := rd_tup 37 (M ++ [.lst [web ms ws is, tI now, tI t]]) now
  have h3 := rd_tup 37 (M ++ [.lst [web ms ws is, tI now, tI t]]) t
  show (match listAt (M ++ [.lst [web ms ws is, tI now, tI t]]) M.length with | some l => (mapO (rd 39 _) l).map PyData.list | none => none) = _
  rw [listAt_of (last_get _ _)]
  simp only [mapO, h1]
  simp only [tI, h2, h3]
  rfl
theorem repr_found (F : Fine ms ws is now t) (M : Mem) : bfn .repr [.tup [tI (A3 ms ws now t), tI (Q3 ms ws now t), tI (R3 ms ws now t)]] M = .ok (.str (PyData.tuple [tP (A3 ms ws now t), tP (Q3 ms ws now t), tP (R3 ms ws now t)]).shown) M := by
  refine repr_ok ?_ (show_found F) (Nat.le_refl _)
  have h1 := rd_tup 37 M (A3 ms ws now t)
  have h2 := rd_tup 37 M (Q3 ms ws now t)
  have h3 := rd_tup 37 M (R3 ms ws now t)
  show (mapO (rd 39 M) [tI (A3 ms ws now t), tI (Q3 ms ws now t), tI (R3 ms ws now t)]).map PyData.tuple = _
  simp only [mapO, tI, h1, h2, h3]
  rfl
theorem eq_tup (l : List Int) (M : Mem) : eqD M (tI l) (tI l) = some true := by
  have h := rd_tup 38 M l
  have e : eqD M (tI l) (tI l) = match rd 40 M (tI l), rd 40 M (tI l) with
    | some x, some y => if SeqAt.shaped x && SeqAt.shaped y then some (PyData.eqv x y) else none
    | _, _ => none := rfl
  have sh : SeqAt.shaped (.tuple (l.map .int)) = true := by
    unfold SeqAt.shaped
    have h1 : (PyData.tuple (l.map .int)).canLay0 = true := by
      unfold PyData.canLay0
      exact canLay_ints l
    have h2 : (PyData.tuple (l.map .int)).depth ≤ 64 := by
      have : ∀ l : List Int, PyData.depthAll (l.map .int) = 0 := by
        intro l
        induction l with
        | nil => rfl
        | cons n l ih => rw [List.map_cons]; unfold PyData.depthAll; rw [ih]; rfl
      unfold PyData.depth
      rw [this]; decide
    rw [h1, decide_eq_true h2]; rfl
  rw [e]
  simp only [tI, h, sh, Bool.and_self, if_true]
  unfold PyData.eqv
  rw [eqvAll_refl_ints]
end Mp.K07

set_option Elab.async false
set_option linter.all false
set_option maxRecDepth 100000
set_option maxHeartbeats 4000000
set_option autoImplicit false
namespace Mp.K07
open PySem PySem.Spec L2
variable {ms : List Int} {ws : List (Int × Int × Int)} {is now t : List Int}
def bodyR : Sms := (.cons (.iff (.cmp .ne (.bin .add (.idx (.v 1) (.v 7)) (.idx (.idx (.v 5) (.c (.int (0)))) (.v 7))) (.bin .add (.bin .mul (.v 8) (.idx (.idx (.v 5) (.c (.int (1)))) (.v 7))) (.idx (.idx (.v 5) (.c (.int (2)))) (.v 7)))) (.cons (.ret (.c (.bl false))) .nil) .nil) (.cons (.iff (.nt (.chn .le .lt (.c (.int (0))) (.idx (.idx (.v 5) (.c (.int (2)))) (.v 7)) (.v 8))) (.cons (.ret (.c (.bl false))) .nil) .nil) .nil))
theorem right_turn (F : Fine ms ws is now t) (k : Nat) (M : Mem) {i : Nat} (hi : i < ms.length) (W D3 x3 x4 x6 : Option D) : xss (g k) bodyR [W, some (tI now), D3, x3, x4, some (.tup [tI (A3 ms ws now t), tI (Q3 ms ws now t), tI (R3 ms ws now t)]), x6, some (.int (i : Nat)), some (.int (nth ms i))] M
    = .nx [W, some (tI now), D3, x3, x4, some (.tup [tI (A3 ms ws now t), tI (Q3 ms ws now t), tI (R3 ms ws now t)]), x6, some (.int (i : Nat)), some (.int (nth ms i))] M := by
  obtain ⟨la, lq, lr⟩ := lens (ws := ws) F.n F.p.len
  obtain ⟨c1, c2⟩ := car_nth (ws := ws) F.n F.p.len hi
  have hm := F.v.m _ (nth_mem hi)
  have ln := F.n.len
  unfold car at c1
  generalize A3 ms ws now t = A at *
  generalize Q3 ms ws now t = Q at *
  generalize R3 ms ws now t = R at *
  have e0 : atD [tI A, tI Q, tI R] 0 = some (tI A) := atD_nat [tI A, tI Q, tI R] 0
  have e1 : atD [tI A, tI Q, tI R] 1 = some (tI Q) := atD_nat [tI A, tI Q, tI R] 1
  have e2 : atD [tI A, tI Q, tI R] 2 = some (tI R) := atD_nat [tI A, tI Q, tI R] 2
  have f0 : atD (now.map D.int) (i : Int) = some (.int (nth now i)) := by rw [atD_nat, at_int (by omega)]
  have f1 : atD (A.map D.int) (i : Int) = some (.int (nth A i)) := by rw [atD_nat, at_int (by omega)]
  have f2 : atD (Q.map D.int) (i : Int) = some (.int (nth Q i)) := by rw [atD_nat, at_int (by omega)]
  have f3 : atD (R.map D.int) (i : Int) = some (.int (nth R i)) := by rw [atD_nat, at_int (by omega)]
  have mu := mul_int M (nth ms i) (nth Q i) (mul_small (by omega) (by omega))
  have q1 : nth now i + nth A i = nth ms i * nth Q i + nth R i := by
    have := Int.mul_ediv_add_emod (nth now i + nth A i) (nth ms i)
    rw [c1, c2]; exact this.symm
  have q2 : 0 ≤ nth R i := by rw [c2]; exact Int.emod_nonneg _ (by omega)
  have q3 : nth R i < nth ms i := by rw [c2]; exact Int.emod_lt_of_pos _ (by omega)
  simp [xss, evo, tst, bindArg, mapO, startS, wipeS, ev_c, ev_v, ev_g, ev_bin, ev_nt, ev_cmp, ev_chn, ev_an, ev_orr, ev_ite, ev_tup, ev_lst, ev_idx, ev_slc, ev_call, ev_blt, ev_mth, xs_ex, xs_set, xs_sub, xs_ret, xs_iff, bt_n, bt_t, bodyR, e0, e1, e2, f0, f1, f2, f3, mu, q1, q2, q3]
theorem right_ok (F : Fine ms ws is now t) (k : Nat) (M : Mem) : ∃ N, C (k + 13) "_law_right" [web ms ws is, tI now, tI t] M = .ok (.bl true) (M ++ N) := by
  rw [C, call_of f__law_right]
  have r1 := repr_args F M
  obtain ⟨N2, h2⟩ := pushed_ok F.v F.n F.p.len (by have := F.wl; omega) (k + 11) (M ++ [.lst [web ms ws is, tI now, tI t]])
  obtain ⟨N3, h3⟩ := arrivals_ok F.v F.n F.p (k + 2) (M ++ [.lst [web ms ws is, tI now, tI t]] ++ N2)
  obtain ⟨N4, h4⟩ := carries_ok F.v F.n F.p (k + 2) (M ++ [.lst [web ms ws is, tI now, tI t]] ++ N2 ++ N3)
  obtain ⟨N5, h5⟩ := after_ok F.v F.n F.p (k + 2) (M ++ [.lst [web ms ws is, tI now, tI t]] ++ N2 ++ N3 ++ N4)
  have r5 := repr_found F (M ++ [.lst [web ms ws is, tI now, tI t]] ++ N2 ++ N3 ++ N4 ++ N5)
  have r6 := repr_args F (M ++ [.lst [web ms ws is, tI now, tI t]] ++ N2 ++ N3 ++ N4 ++ N5)
  obtain ⟨N7, h7⟩ := arrivals_ok F.v F.n F.p (k + 2) (M ++ [.lst [web ms ws is, tI now, tI t]] ++ N2 ++ N3 ++ N4 ++ N5 ++ [.lst [web ms ws is, tI now, tI t]])
  obtain ⟨N8, h8⟩ := carries_ok F.v F.n F.p (k + 2) (M ++ [.lst [web ms ws is, tI now, tI t]] ++ N2 ++ N3 ++ N4 ++ N5 ++ [.lst [web ms ws is, tI now, tI t]] ++ N7)
  obtain ⟨N9, h9⟩ := after_ok F.v F.n F.p (k + 2) (M ++ [.lst [web ms ws is, tI now, tI t]] ++ N2 ++ N3 ++ N4 ++ N5 ++ [.lst [web ms ws is, tI now, tI t]] ++ N7 ++ N8)
  have k7 := (by_name (k := k + 11) f_arrivals (web ms ws is) (tI now) (tI t) _).trans h7
  have k8 := (by_name (k := k + 11) f_carries (web ms ws is) (tI now) (tI t) _).trans h8
  have k9 := (by_name (k := k + 11) f_after (web ms ws is) (tI now) (tI t) _).trans h9
  have turn := fun (M : Mem) {i : Nat} (hi : i < ms.length) => right_turn F (k + 12) M hi
  have s1 := (show_args F)
  have s2 := (show_found F)
  have e0 : atD [tI ms, .tup (ws.map encW), tI is] 0 = some (tI ms) := atD_nat [tI ms, .tup (ws.map encW), tI is] 0
  have q1 := eq_tup (A3 ms ws now t)
  have q2 := eq_tup (Q3 ms ws now t)
  have q3 := eq_tup (R3 ms ws now t)
  have d0 : atD [tI (A3 ms ws now t), tI (Q3 ms ws now t), tI (R3 ms ws now t)] 0 = some (tI (A3 ms ws now t)) := atD_nat [tI (A3 ms ws now t), tI (Q3 ms ws now t), tI (R3 ms ws now t)] 0
  have d1 : atD [tI (A3 ms ws now t), tI (Q3 ms ws now t), tI (R3 ms ws now t)] 1 = some (tI (Q3 ms ws now t)) := atD_nat [tI (A3 ms ws now t), tI (Q3 ms ws now t), tI (R3 ms ws now t)] 1
  have d2 : atD [tI (A3 ms ws now t), tI (Q3 ms ws now t), tI (R3 ms ws now t)] 2 = some (tI (R3 ms ws now t)) := atD_nat [tI (A3 ms ws now t), tI (Q3 ms ws now t), tI (R3 ms ws now t)] 2
  refine ⟨[.lst [web ms ws is, tI now, tI t]] ++ N2 ++ N3 ++ N4 ++ N5 ++ [.lst [web ms ws is, tI now, tI t]] ++ N7 ++ N8 ++ N9, ?_⟩
  rw [show M ++ ([MO.lst [web ms ws is, tI now, tI t]] ++ N2 ++ N3 ++ N4 ++ N5 ++ [MO.lst [web ms ws is, tI now, tI t]] ++ N7 ++ N8 ++ N9) = M ++ [MO.lst [web ms ws is, tI now, tI t]] ++ N2 ++ N3 ++ N4 ++ N5 ++ [MO.lst [web ms ws is, tI now, tI t]] ++ N7 ++ N8 ++ N9 by simp [xss, evo, tst, bindArg, mapO, startS, wipeS, ev_c, ev_v, ev_g, ev_bin, ev_nt, ev_cmp, ev_chn, ev_an, ev_orr, ev_ite, ev_tup, ev_lst, ev_idx, ev_slc, ev_call, ev_blt, ev_mth, xs_ex, xs_set, xs_sub, xs_ret, xs_iff, bt_n, bt_t, List.append_assoc]]
  generalize hM1 : M ++ [MO.lst [web ms ws is, tI now, tI t]] = M1 at *
  generalize M1 ++ N2 = M2 at *
  generalize M2 ++ N3 = M3 at *
  generalize M3 ++ N4 = M4 at *
  generalize M4 ++ N5 = M5 at *
  generalize hM6 : M5 ++ [MO.lst [web ms ws is, tI now, tI t]] = M6 at *
  generalize M6 ++ N7 = M7 at *
  generalize M7 ++ N8 = M8 at *
  generalize M8 ++ N9 = M9 at *
  generalize (PyData.list [webP ms ws is, tP now, tP t]) = p1 at *
  generalize (PyData.tuple [tP (A3 ms ws now t), tP (Q3 ms ws now t), tP (R3 ms ws now t)]) = p2 at *
  have loop : ∀ (W D3 x3 x4 x6 a b : Option D), ∃ σ' M', frGo (bindT (.t [7, 8])) (xss (g (k + 12)) bodyR) (.enum (.snap (ms.map .int))) (ms.map D.int).length (ms.map D.int).length [W, some (tI now), D3, x3, x4, some (.tup [tI (A3 ms ws now t), tI (Q3 ms ws now t), tI (R3 ms ws now t)]), x6, a, b] M9 = .nx σ' M' ∧ (fun σ' M' => M' = M9 ∧ ∃ a b, σ' = [W, some (tI now), D3, x3, x4, some (.tup [tI (A3 ms ws now t), tI (Q3 ms ws now t), tI (R3 ms ws now t)]), x6, a, b]) σ' M' := by
    intro W D3 x3 x4 x6 a b
    have step : ∀ (i : Nat) (d : D) (σ : S) (M' : Mem), (ms.map D.int)[i]? = some d → (M' = M9 ∧ ∃ a b, σ = [W, some (tI now), D3, x3, x4, some (.tup [tI (A3 ms ws now t), tI (Q3 ms ws now t), tI (R3 ms ws now t)]), x6, a, b]) → ∃ σ1 σ2 M2, bindT (.t [7, 8]) (.tup [.int (i : Nat), d]) σ = some σ1 ∧ (xss (g (k + 12)) bodyR σ1 M' = .nx σ2 M2 ∨ xss (g (k + 12)) bodyR σ1 M' = .ct σ2 M2) ∧ (M2 = M9 ∧ ∃ a b, σ2 = [W, some (tI now), D3, x3, x4, some (.tup [tI (A3 ms ws now t), tI (Q3 ms ws now t), tI (R3 ms ws now t)]), x6, a, b]) := by
      rintro i d σ M' hd ⟨rfl, a, b, rfl⟩
      obtain ⟨m, hm, em, rfl⟩ := get_ints hd
      have hi := (List.getElem?_eq_some_iff.mp em).1
      have q := turn M' hi W D3 x3 x4 x6
      rw [nth_of em] at q
      exact ⟨_, _, _, rfl, .inl q, rfl, _, _, rfl⟩
    exact fr_enum (fun _ σ M' => M' = M9 ∧ ∃ a b, σ = [W, some (tI now), D3, x3, x4, some (.tup [tI (A3 ms ws now t), tI (Q3 ms ws now t), tI (R3 ms ws now t)]), x6, a, b]) ⟨rfl, a, b, rfl⟩ step
  have hev : ∀ (D3 x3 x4 x6 : Option D), evi (g (k + 12)) (.enum (.idx (.v 0) (.c (.int (0))))) [some (web ms ws is), some (tI now), D3, x3, x4, some (.tup [tI (A3 ms ws now t), tI (Q3 ms ws now t), tI (R3 ms ws now t)]), x6, none, none] M9 = .ok (.enum (.snap (ms.map .int))) M9 := fun D3 x3 x4 x6 => evi_enum (x := tI ms) (by simp [xss, evo, tst, bindArg, mapO, startS, wipeS, ev_c, ev_v, ev_g, ev_bin, ev_nt, ev_cmp, ev_chn, ev_an, ev_orr, ev_ite, ev_tup, ev_lst, ev_idx, ev_slc, ev_call, ev_blt, ev_mth, xs_ex, xs_set, xs_sub, xs_ret, xs_iff, bt_n, bt_t, e0]) rfl
  obtain ⟨σ', M', l1, l2, a, b, l3⟩ := loop (some (web ms ws is)) (some (tI t)) (some (.str p1.shown)) (some (.tup [tI (A3 ms ws now t), tI (Q3 ms ws now t), tI (R3 ms ws now t)])) (some (tI (A3 ms ws now t))) none none
  subst l2
  have hx : xs (g (k + 12)) (.fr (.t [7, 8]) (.enum (.idx (.v 0) (.c (.int (0))))) bodyR) [some (web ms ws is), some (tI now), some (tI t), some (.str p1.shown), some (.tup [tI (A3 ms ws now t), tI (Q3 ms ws now t), tI (R3 ms ws now t)]), some (.tup [tI (A3 ms ws now t), tI (Q3 ms ws now t), tI (R3 ms ws now t)]), some (tI (A3 ms ws now t)), none, none] M' = .nx σ' M' := xs_fr (hev _ _ _ _) rfl (by rw [List.length_mapIdx]; exact l1)
  have eb : b__law_right = (.cons (.set (.t (.t [3, 4])) (.tup (.cons (.blt .repr (.cons (.lst (.cons (.v 0) (.cons (.v 1) (.cons (.v 2) .nil)))) .nil)) (.cons (.call "_law_pushed" (.cons (.v 0) (.cons (.v 1) (.cons (.v 2) .nil))) [] .nil) .nil)))) (.cons (.set (.t (.n 5)) (.tup (.cons (.call "arrivals" (.cons (.v 0) (.cons (.v 1) (.cons (.v 2) .nil))) [] .nil) (.cons (.call "carries" (.cons (.v 0) (.cons (.v 1) (.cons (.v 2) .nil))) [] .nil) (.cons (.call "after" (.cons (.v 0) (.cons (.v 1) (.cons (.v 2) .nil))) [] .nil) .nil))))) (.cons (.iff (.orr (.cmp .ne (.blt .repr (.cons (.v 5) .nil)) (.blt .repr (.cons (.v 4) .nil))) (.cmp .ne (.blt .repr (.cons (.lst (.cons (.v 0) (.cons (.v 1) (.cons (.v 2) .nil)))) .nil)) (.v 3))) (.cons (.ret (.c (.bl false))) .nil) .nil) (.cons (.set (.t (.n 6)) (.call "arrivals" .nil ["ticks", "phases", "net"] (.cons (.v 2) (.cons (.v 1) (.cons (.v 0) .nil))))) (.cons (.iff (.orr (.cmp .ne (.v 6) (.idx (.v 4) (.c (.int (0))))) (.cmp .ne (.call "carries" .nil ["ticks", "phases", "net"] (.cons (.v 2) (.cons (.v 1) (.cons (.v 0) .nil)))) (.idx (.v 4) (.c (.int (1)))))) (.cons (.ret (.c (.bl false))) .nil) .nil) (.cons (.iff (.cmp .ne (.call "after" .nil ["ticks", "phases", "net"] (.cons (.v 2) (.cons (.v 1) (.cons (.v 0) .nil)))) (.idx (.v 4) (.c (.int (2))))) (.cons (.ret (.c (.bl false))) .nil) .nil) (.cons (.fr (.t [7, 8]) (.enum (.idx (.v 0) (.c (.int (0))))) bodyR) (.cons (.ret (.c (.bl true))) .nil)))))))) := rfl
  have z1 := fun M => eq_shown s1 M
  have z2 := fun M => eq_shown s2 M
  generalize web ms ws is = W at *
  generalize tI (A3 ms ws now t) = A at *
  generalize tI (Q3 ms ws now t) = Q at *
  generalize tI (R3 ms ws now t) = R at *
  generalize tI now = D2 at *
  generalize tI t = D3 at *
  simp [xss, evo, tst, bindArg, mapO, startS, wipeS, ev_c, ev_v, ev_g, ev_bin, ev_nt, ev_cmp, ev_chn, ev_an, ev_orr, ev_ite, ev_tup, ev_lst, ev_idx, ev_slc, ev_call, ev_blt, ev_mth, xs_ex, xs_set, xs_sub, xs_ret, xs_iff, bt_n, bt_t, eb, hM1, r1, h2, h3, h4, h5, r5, hM6, r6, k7, k8, k9, z1, z2, q1, q2, q3, d0, d1, d2, hx]
end Mp.K07

set_option Elab.async false
set_option linter.all false
set_option maxRecDepth 100000
set_option maxHeartbeats 4000000
set_option autoImplicit false
namespace Mp.K07
open PySem PySem.Spec L2
theorem mixed_ok (k : Nat) (a b : Int) (hb : 0 ≤ b ∧ b < 1000) (M : Mem) : ∃ r, C (k + 1) "_law_mixed" [.int a, .int b] M = .ok (.int r) M := by
  rw [C, call_of f__law_mixed]
  have m1 := mod_int M a 2147483647 (by decide)
  have m2 := mul_int M 7919 b (mul_64 (by decide) (by decide))
  have m3 := mul_int M (7919 * b) b (mul_64 (by omega) (by omega))
  have m4 := mul_int M 31 b (mul_64 (by decide) (by decide))
  have h1 := Int.emod_nonneg a (by decide : (2147483647 : Int) ≠ 0)
  have h2 := Int.emod_lt_of_pos a (by decide : (0 : Int) < 2147483647)
  have m5 := fun x => mul_int M x 48271 (by unfold mulOk; exact decide_eq_true (.inr (.inl (by decide))))
  have m6 := fun x => mod_int M x 2147483647 (by decide)
  have m7 := fun x => mul_int M x 69621 (by unfold mulOk; exact decide_eq_true (.inr (.inl (by decide))))
  have m8 := fun x => mod_int M x 2147483629 (by decide)
  have m9 := fun x => fdiv_int M x 64 (by decide) (log_lit (by decide) (by decide))
  simp [xss, evo, tst, bindArg, mapO, startS, wipeS, ev_c, ev_v, ev_g, ev_bin, ev_nt, ev_cmp, ev_chn, ev_an, ev_orr, ev_ite, ev_tup, ev_lst, ev_idx, ev_slc, ev_call, ev_blt, ev_mth, xs_ex, xs_set, xs_sub, xs_ret, xs_iff, bt_n, bt_t, b__law_mixed, m1, m2, m3, m4, m5, m6, m7, m8, m9]
end Mp.K07

set_option Elab.async false
set_option linter.all false
set_option maxRecDepth 100000
set_option maxHeartbeats 4000000
set_option autoImplicit false
namespace Mp.K07
open PySem PySem.Spec L2
abbrev dctM (c r : Nat) (at' : Int) : MO := .dct [(.inr "cells", .ref c), (.inr "great", .ref r), (.inr "at", .int at')]
structure St (d c r : Nat) (cells great : List Int) (a : Int) (M : Mem) : Prop where
  dr : d ≠ r
  cd : c ≠ d
  cr : c ≠ r
  hd : M[d]? = some (dctM c r a)
  hc : M[c]? = some (.lst (cells.map .int))
  hr : M[r]? = some (.lst (great.map .int))
variable {d c r : Nat} {cells great : List Int} {a : Int} {M : Mem}
theorem get_app {M N : Mem} {n : Nat} {o : MO} (h : M[n]? = some o) : (M ++ N)[n]? = some o := by
  rw [List.getElem?_append_left (List.getElem?_eq_some_iff.mp h).1, h]
theorem St.app {N : Mem} (s : St d c r cells great a M) : St d c r cells great a (M ++ N) := ⟨s.dr, s.cd, s.cr, get_app s.hd, get_app s.hc, get_app s.hr⟩
theorem St.setR {gr : List Int} (s : St d c r cells great a M) : St d c r cells gr a (M.set r (.lst (gr.map .int))) := by
  have hl := (List.getElem?_eq_some_iff.mp s.hr).1
  exact ⟨s.dr, s.cd, s.cr, by rw [List.getElem?_set_ne (Ne.symm s.dr), s.hd], by rw [List.getElem?_set_ne (Ne.symm s.cr), s.hc], by rw [List.getElem?_set_self hl]⟩
theorem St.setD {b : Int} (s : St d c r cells great a M) : St d c r cells great b (M.set d (dctM c r b)) := by
  have hl := (List.getElem?_eq_some_iff.mp s.hd).1
  exact ⟨s.dr, s.cd, s.cr, by rw [List.getElem?_set_self hl], by rw [List.getElem?_set_ne (Ne.symm s.cd), s.hc], by rw [List.getElem?_set_ne s.dr, s.hr]⟩
theorem St.cells' (s : St d c r cells great a M) : idxD (.ref d) (.str "cells") M = some (.ref c) := by
  unfold idxD
  simp only [s.hd]
  rfl
theorem St.great' (s : St d c r cells great a M) : idxD (.ref d) (.str "great") M = some (.ref r) := by
  unfold idxD
  simp only [s.hd]
  rfl
theorem St.at' (s : St d c r cells great a M) : idxD (.ref d) (.str "at") M = some (.int a) := by
  unfold idxD
  simp only [s.hd]
  rfl
theorem St.put (s : St d c r cells great a M) (b : Int) : Mp.setD (.ref d) (.str "at") (.int b) M = some (M.set d (dctM c r b)) := by
  unfold Mp.setD
  simp only [s.hd]
  rfl
def cndW : Ir := (.an (.cmp .ne (.v 1) (.lst .nil)) (.cmp .eq (.idx (.v 1) (.c (.int (0)))) (.c (.int (0)))))
def bdyW : Sms := (.cons (.ex (.mth .popAt (.v 1) (.cons (.c (.int (0))) .nil))) .nil)
theorem while_ok (k : Nat) (s : St d c r cells great a M) (hg : great.length < L0) (x0 x2 x3 x4 x5 : Option D) : ∃ M' great', xs (g k) (.whl cndW bdyW) [x0, some (.ref r), x2, x3, x4, x5] M = .nx [x0, some (.ref r), x2, x3, x4, x5] M' ∧ St d c r cells great' a M' ∧ great'.length ≤ great.length ∧ Fr d r M M' := by
  have q := wh_all (c := tst (g k) cndW) (b := xss (g k) bdyW) (L := L0) (n := great.length) (σ := [x0, some (.ref r), x2, x3, x4, x5]) (M := M)
    (fun n σ M' => σ = [x0, some (.ref r), x2, x3, x4, x5] ∧ Fr d r M M' ∧ n ≤ great.length ∧ ∃ gr : List Int, gr.length = n ∧ St d c r cells gr a M')
    (fun σ M' => σ = [x0, some (.ref r), x2, x3, x4, x5] ∧ Fr d r M M' ∧ ∃ gr : List Int, gr.length ≤ great.length ∧ St d c r cells gr a M') ⟨rfl, .rfl', Nat.le_refl _, great, rfl, s⟩ hg (by
      rintro n σ M' ⟨rfl, fr, hn, gr, hl, s'⟩
      have s2 := s'.app (N := [.lst []])
      have e1 : eqD (M' ++ [.lst []]) (.ref r) (.ref M'.length) = some gr.isEmpty := eq_nil s2.hr (last_get _ _)
      cases gr with
      | nil =>
        left
        refine ⟨M' ++ [MO.lst []], ?_, rfl, fr.trans .app, [], by simp, s2⟩
        simp [xss, evo, tst, bindArg, mapO, startS, wipeS, ev_c, ev_v, ev_g, ev_bin, ev_nt, ev_cmp, ev_chn, ev_an, ev_orr, ev_ite, ev_tup, ev_lst, ev_idx, ev_slc, ev_call, ev_blt, ev_mth, xs_ex, xs_set, xs_sub, xs_ret, xs_iff, bt_n, bt_t, cndW, e1]
      | cons y ys =>
        have e2 : idxD (.ref r) (.int 0) (M' ++ [.lst []]) = some (.int y) := by
          rw [idx_lst s2.hr]; exact atD_nat ((y :: ys).map D.int) 0
        by_cases hy : y = 0
        · right
          have hl' : isL (M' ++ [.lst []]) (.ref r) = true := isL_of s2.hr
          have e3 : mfn .popAt (.ref r) [.int 0] (M' ++ [.lst []]) = .ok (.int y) ((M' ++ [MO.lst []]).set r (.lst (ys.map .int))) := by
            simp only [mfn, s2.hr]
            rw [if_pos ⟨Int.le_refl _, by rw [List.length_map, List.length_cons]; omega, by decide⟩]
            rfl
          refine ⟨M' ++ [MO.lst []], _, (M' ++ [MO.lst []]).set r (.lst (ys.map .int)), ys.length, ?_, .inl ?_, ?_, rfl, fr.trans (Fr.app.trans .setR), ?_, ys, rfl, s2.setR⟩
          · simp [xss, evo, tst, bindArg, mapO, startS, wipeS, ev_c, ev_v, ev_g, ev_bin, ev_nt, ev_cmp, ev_chn, ev_an, ev_orr, ev_ite, ev_tup, ev_lst, ev_idx, ev_slc, ev_call, ev_blt, ev_mth, xs_ex, xs_set, xs_sub, xs_ret, xs_iff, bt_n, bt_t, cndW, e1, e2, hy]
          · simp [xss, evo, tst, bindArg, mapO, startS, wipeS, ev_c, ev_v, ev_g, ev_bin, ev_nt, ev_cmp, ev_chn, ev_an, ev_orr, ev_ite, ev_tup, ev_lst, ev_idx, ev_slc, ev_call, ev_blt, ev_mth, xs_ex, xs_set, xs_sub, xs_ret, xs_iff, bt_n, bt_t, bdyW, hl', e3]
          · simp [xss, evo, tst, bindArg, mapO, startS, wipeS, ev_c, ev_v, ev_g, ev_bin, ev_nt, ev_cmp, ev_chn, ev_an, ev_orr, ev_ite, ev_tup, ev_lst, ev_idx, ev_slc, ev_call, ev_blt, ev_mth, xs_ex, xs_set, xs_sub, xs_ret, xs_iff, bt_n, bt_t] at hl; omega
          · simp [xss, evo, tst, bindArg, mapO, startS, wipeS, ev_c, ev_v, ev_g, ev_bin, ev_nt, ev_cmp, ev_chn, ev_an, ev_orr, ev_ite, ev_tup, ev_lst, ev_idx, ev_slc, ev_call, ev_blt, ev_mth, xs_ex, xs_set, xs_sub, xs_ret, xs_iff, bt_n, bt_t] at hl; omega
        · left
          refine ⟨M' ++ [MO.lst []], ?_, rfl, fr.trans .app, y :: ys, by omega, s2⟩
          simp [xss, evo, tst, bindArg, mapO, startS, wipeS, ev_c, ev_v, ev_g, ev_bin, ev_nt, ev_cmp, ev_chn, ev_an, ev_orr, ev_ite, ev_tup, ev_lst, ev_idx, ev_slc, ev_call, ev_blt, ev_mth, xs_ex, xs_set, xs_sub, xs_ret, xs_iff, bt_n, bt_t, cndW, e1, e2, hy])
  obtain ⟨σ', M', e, rfl, fr, gr, h1, h2⟩ := q
  exact ⟨M', gr, by rw [xs_whl]; exact e, h2, h1, fr⟩
end Mp.K07

set_option Elab.async false
set_option linter.all false
set_option maxRecDepth 100000
set_option maxHeartbeats 4000000
set_option autoImplicit false
namespace Mp.K07
open PySem PySem.Spec L2
variable {d c r : Nat} {cells great : List Int} {a : Int} {M : Mem}
theorem xs_augs {G : Gl} {σ : S} {o i e : Ir} {op : Bop} : xs G (.augs o i op e) σ M = (ev G o σ M).fl σ fun a M1 => (ev G i σ M1).fl σ fun k M2 => (Res.ofO (idxD a k M2) M2).fl σ fun x M2 => (ev G e σ M2).fl σ fun y M3 => (iop op x y M3).fl σ fun z M4 => nxM σ (setD a k z M4) := by
  simp only [xs]
  rfl
@[local simp] theorem iop_add (x y : Int) (M : Mem) : iop .add (.int x) (.int y) M = .ok (.int (x + y)) M := rfl
theorem len_ref {n : Nat} {l : List D} (h : M[n]? = some (.lst l)) : bfn .len [.ref n] M = .ok (.int (l.length : Nat)) M := by
  simp only [bfn, h]
/-- the draws' state: where the dict and its list lie -/
def Dice (d c r : Nat) (M : Mem) : Prop := ∃ cells great a, St d c r cells great a M ∧ great.length ≤ 63 ∧ 0 ≤ a
theorem next_ok (k : Nat) (D0 : Dice d c r M) : ∃ x M', C (k + 2) "_law_next" [.ref d] M = .ok (.int x) M' ∧ 0 ≤ x ∧ x < 65536 ∧ Dice d c r M' ∧ Fr d r M M' := by
  obtain ⟨cells, great, a, s, hl, ha⟩ := D0
  rw [C, call_of f__law_next]
  have p1 := s.put (a + 1)
  have e1 := s.at'
  have s1 : St d c r cells great (a + 1) (M.set d (dctM c r (a + 1))) := s.setD
  have f1 : Fr d r M (M.set d (dctM c r (a + 1))) := .setD
  generalize M.set d (dctM c r (a + 1)) = M1 at *
  have e2 := s1.great'
  obtain ⟨M2, gr, w, s2, hg, f2⟩ := while_ok (k + 1) s1 (Nat.lt_of_le_of_lt hl (by decide)) (some (.ref d)) none none none none
  have s3 := s2.app (N := [.lst []])
  have f3 : Fr d r M (M2 ++ [.lst []]) := f1.trans (f2.trans .app)
  have e3 : eqD (M2 ++ [.lst []]) (.ref r) (.ref M2.length) = some gr.isEmpty := eq_nil s3.hr (last_get _ _)
  have eb : b__law_next = (.cons (.augs (.v 0) (.c (.str "at")) .add (.c (.int (1)))) (.cons (.set (.t (.n 1)) (.idx (.v 0) (.c (.str "great")))) (.cons (.whl cndW bdyW) (.cons (.iff (.cmp .ne (.v 1) (.lst .nil)) (.cons (.set (.t (.n 2)) (.bin .mod (.idx (.v 1) (.c (.int (0)))) (.c (.int (65536))))) (.cons (.set (.sub (.v 1) (.c (.int (0)))) (.bin .fdiv (.idx (.v 1) (.c (.int (0)))) (.c (.int (65536))))) (.cons (.ret (.v 2)) .nil))) .nil) (.cons (.set (.t (.t [3, 4])) (.tup (.cons (.idx (.v 0) (.c (.str "cells"))) (.cons (.idx (.v 0) (.c (.str "at"))) .nil)))) (.cons (.set (.t (.n 5)) (.ite (.cmp .ne (.v 3) (.lst .nil)) (.idx (.v 3) (.bin .mod (.v 4) (.blt .len (.cons (.v 3) .nil)))) (.c (.int (0))))) (.cons (.ret (.bin .mod (.call "_law_mixed" (.cons (.call "_law_mixed" (.cons (.bin .add (.v 5) (.bin .mul (.c (.int (7919))) (.v 4))) (.cons (.bin .mod (.v 4) (.c (.int (1000)))) .nil)) [] .nil) (.cons (.c (.int (3))) .nil)) [] .nil) (.c (.int (65536))))) .nil))))))) := rfl
  have md := fun (M : Mem) (x : Int) => mod_int M x 65536 (by decide)
  have dv := fun (M : Mem) (x : Int) => fdiv_int M x 65536 (by decide) (log_lit (by decide) (by decide))
  cases gr with
  | cons y ys =>
    have e4 : idxD (.ref r) (.int 0) (M2 ++ [.lst []]) = some (.int y) := by
      rw [idx_lst s3.hr]; exact atD_nat ((y :: ys).map D.int) 0
    have e5 : setD (.ref r) (.int 0) (.int (y / 65536)) (M2 ++ [.lst []]) = some ((M2 ++ [MO.lst []]).set r (.lst (((y / 65536) :: ys).map .int))) := setD_lst (i := 0) s3.hr (by simp [xss, evo, tst, bindArg, mapO, startS, wipeS, ev_c, ev_v, ev_g, ev_bin, ev_nt, ev_cmp, ev_chn, ev_an, ev_orr, ev_ite, ev_tup, ev_lst, ev_idx, ev_slc, ev_call, ev_blt, ev_mth, xs_ex, xs_set, xs_sub, xs_ret, xs_iff, bt_n, bt_t])
    have s4 : St d c r cells ((y / 65536) :: ys) (a + 1) ((M2 ++ [MO.lst []]).set r (.lst (((y / 65536) :: ys).map .int))) := s3.setR
    have f4 : Fr d r M ((M2 ++ [MO.lst []]).set r (.lst (((y / 65536) :: ys).map .int))) := f3.trans .setR
    generalize (M2 ++ [MO.lst []]).set r (.lst (((y / 65536) :: ys).map .int)) = M4 at *
    refine ⟨y % 65536, M4, ?_, Int.emod_nonneg _ (by decide), Int.emod_lt_of_pos _ (by decide), ⟨cells, _, a + 1, s4, by simp [xss, evo, tst, bindArg, mapO, startS, wipeS, ev_c, ev_v, ev_g, ev_bin, ev_nt, ev_cmp, ev_chn, ev_an, ev_orr, ev_ite, ev_tup, ev_lst, ev_idx, ev_slc, ev_call, ev_blt, ev_mth, xs_ex, xs_set, xs_sub, xs_ret, xs_iff, bt_n, bt_t] at hg ⊢; omega, by omega⟩, f4⟩
    generalize hM3 : M2 ++ [MO.lst []] = M3 at *
    simp [xss, evo, tst, bindArg, mapO, startS, wipeS, ev_c, ev_v, ev_g, ev_bin, ev_nt, ev_cmp, ev_chn, ev_an, ev_orr, ev_ite, ev_tup, ev_lst, ev_idx, ev_slc, ev_call, ev_blt, ev_mth, xs_ex, xs_set, xs_sub, xs_ret, xs_iff, bt_n, bt_t, eb, xs_augs, e1, p1, e2, w, hM3, e3, e4, md, dv, e5]
  | nil =>
    have e4 := s3.cells'
    have e5 := s3.at'
    have s4 := s3.app (N := [.lst []])
    have f4 : Fr d r M (M2 ++ [.lst []] ++ [.lst []]) := f3.trans .app
    have e6 : eqD (M2 ++ [.lst []] ++ [.lst []]) (.ref c) (.ref (M2 ++ [MO.lst []]).length) = some cells.isEmpty := eq_nil s4.hc (last_get _ _)
    have m1 := mul_int (M2 ++ [.lst []] ++ [.lst []]) 7919 (a + 1) (mul_64 (by decide) (by decide))
    have m2 := mod_int (M2 ++ [.lst []] ++ [.lst []]) (a + 1) 1000 (by decide)
    have b1 := Int.emod_nonneg (a + 1) (by decide : (1000 : Int) ≠ 0)
    have b2 := Int.emod_lt_of_pos (a + 1) (by decide : (0 : Int) < 1000)
    cases cells with
    | nil =>
      obtain ⟨x1, q1⟩ := mixed_ok k (0 + 7919 * (a + 1)) ((a + 1) % 1000) ⟨b1, b2⟩ (M2 ++ [.lst []] ++ [.lst []])
      obtain ⟨x2, q2⟩ := mixed_ok k x1 3 (by decide) (M2 ++ [.lst []] ++ [.lst []])
      refine ⟨x2 % 65536, M2 ++ [.lst []] ++ [.lst []], ?_, Int.emod_nonneg _ (by decide), Int.emod_lt_of_pos _ (by decide), ⟨[], _, a + 1, s4, by simp, by omega⟩, f4⟩
      generalize hM3 : M2 ++ [MO.lst []] = M3 at *
      generalize hM4 : M3 ++ [MO.lst []] = M4 at *
      simp only [Int.zero_add] at q1
      simp [xss, evo, tst, bindArg, mapO, startS, wipeS, ev_c, ev_v, ev_g, ev_bin, ev_nt, ev_cmp, ev_chn, ev_an, ev_orr, ev_ite, ev_tup, ev_lst, ev_idx, ev_slc, ev_call, ev_blt, ev_mth, xs_ex, xs_set, xs_sub, xs_ret, xs_iff, bt_n, bt_t, eb, xs_augs, e1, p1, e2, w, hM3, e3, e4, e5, hM4, e6, m1, m2, q1, q2, md]
    | cons z zs =>
      have ln := len_ref s4.hc
      have hp : (0 : Int) < (((z :: zs).map D.int).length : Nat) := by rw [List.length_map, List.length_cons]; omega
      have m3 := mod_int (M2 ++ [.lst []] ++ [.lst []]) (a + 1) (((z :: zs).map D.int).length : Nat) hp
      have b3 := Int.emod_nonneg (a + 1) (by omega : ((((z :: zs).map D.int).length : Nat) : Int) ≠ 0)
      have b4 := Int.emod_lt_of_pos (a + 1) hp
      obtain ⟨j, hj⟩ := Int.eq_ofNat_of_zero_le b3
      have e7 : idxD (.ref c) (.int ((a + 1) % (((z :: zs).map D.int).length : Nat))) (M2 ++ [.lst []] ++ [.lst []]) = some (.int (nth (z :: zs) j)) := by
        rw [idx_lst s4.hc, hj]
        rw [hj] at b4
        rw [atD_nat, at_int (by rw [List.length_map] at b4; omega)]
      obtain ⟨x1, q1⟩ := mixed_ok k (nth (z :: zs) j + 7919 * (a + 1)) ((a + 1) % 1000) ⟨b1, b2⟩ (M2 ++ [.lst []] ++ [.lst []])
      obtain ⟨x2, q2⟩ := mixed_ok k x1 3 (by decide) (M2 ++ [.lst []] ++ [.lst []])
      refine ⟨x2 % 65536, M2 ++ [.lst []] ++ [.lst []], ?_, Int.emod_nonneg _ (by decide), Int.emod_lt_of_pos _ (by decide), ⟨z :: zs, _, a + 1, s4, by simp, by omega⟩, f4⟩
      generalize hM3 : M2 ++ [MO.lst []] = M3 at *
      generalize hM4 : M3 ++ [MO.lst []] = M4 at *
      generalize ((z :: zs).map D.int).length = n at *
      simp [xss, evo, tst, bindArg, mapO, startS, wipeS, ev_c, ev_v, ev_g, ev_bin, ev_nt, ev_cmp, ev_chn, ev_an, ev_orr, ev_ite, ev_tup, ev_lst, ev_idx, ev_slc, ev_call, ev_blt, ev_mth, xs_ex, xs_set, xs_sub, xs_ret, xs_iff, bt_n, bt_t, eb, xs_augs, e1, p1, e2, w, hM3, e3, e4, e5, hM4, e6, m1, m2, ln, m3, e7, q1, q2, md]
theorem Dice.app {N : Mem} (D : Dice d c r M) : Dice d c r (M ++ N) := by
  obtain ⟨cells, great, a, s, h⟩ := D
  exact ⟨cells, great, a, s.app, h⟩
theorem Dice.lt (D : Dice d c r M) : d < M.length ∧ c < M.length ∧ r < M.length := by
  obtain ⟨cells, great, a, s, h⟩ := D
  exact ⟨(List.getElem?_eq_some_iff.mp s.hd).1, (List.getElem?_eq_some_iff.mp s.hc).1, (List.getElem?_eq_some_iff.mp s.hr).1⟩
theorem Dice.set {j : Nat} {o : MO} (D : Dice d c r M) (h1 : j ≠ d) (h2 : j ≠ c) (h3 : j ≠ r) : Dice d c r (M.set j o) := by
  obtain ⟨cells, great, a, s, h⟩ := D
  exact ⟨cells, great, a, ⟨s.dr, s.cd, s.cr, by rw [List.getElem?_set_ne h1, s.hd], by rw [List.getElem?_set_ne h2, s.hc], by rw [List.getElem?_set_ne h3, s.hr]⟩, h⟩
theorem len_fl (l : List D) (M : Mem) : bfn .len [.fl l] M = .ok (.int (l.length : Nat)) M := rfl
end Mp.K07

set_option Elab.async false
set_option linter.all false
set_option maxRecDepth 100000
set_option maxHeartbeats 4000000
set_option autoImplicit false
namespace Mp.K07
open PySem PySem.Spec L2
variable {d c r : Nat} {M : Mem}
theorem weight_ok (k : Nat) (n : Int) (hn : 0 ≤ n) (M : Mem) : ∃ w N, C (k + 1) "_law_weight" [.int n] M = .ok (.int w) (M ++ N) ∧ -100 ≤ w ∧ w ≤ 100 ∧ w ≠ 0 := by
  rw [C, call_of f__law_weight]
  have d4 := fun M x => fdiv_int M x 4 (by decide) (log_lit (by decide) (by decide))
  have r7 := fun M x => mod_int M x 7 (by decide)
  have r3 := fun M x => mod_int M x 3 (by decide)
  have r201 := fun M x => mod_int M x 201 (by decide)
  have r4 := fun M x => mod_int M x 4 (by decide)
  have h0 := Int.emod_nonneg n (by decide : (4 : Int) ≠ 0)
  have h1 := Int.emod_lt_of_pos n (by decide : (0 : Int) < 4)
  obtain ⟨j, hj⟩ := Int.eq_ofNat_of_zero_le h0
  let l : List Int := [n / 4 % 7 - 3, n / 4 % 7 - 3, n / 4 % 3 - 1, n / 4 % 201 - 100]
  have hl : ∀ x ∈ l, -100 ≤ x ∧ x ≤ 100 := by
    intro x hx
    simp only [l, List.mem_cons, List.not_mem_nil, or_false] at hx
    rcases hx with rfl | rfl | rfl | rfl <;> omega
  have e1 : idxD (.ref M.length) (.int (n % 4)) (M ++ [.lst [.int (n / 4 % 7 - 3), .int (n / 4 % 7 - 3), .int (n / 4 % 3 - 1), .int (n / 4 % 201 - 100)]]) = some (.int (nth l j)) := by
    rw [idx_lst (last_get _ _), hj, atD_nat]
    exact at_int (l := l) (by show j < 4; omega)
  have hx := hl _ (nth_mem (l := l) (by show j < 4; omega))
  generalize nth l j = x at *
  refine ⟨if x ≠ 0 then x else 1, [.lst [.int (n / 4 % 7 - 3), .int (n / 4 % 7 - 3), .int (n / 4 % 3 - 1), .int (n / 4 % 201 - 100)]], ?_, ?_⟩
  · by_cases h : x = 0
    · simp [xss, tst, bindArg, mapO, startS, wipeS, ev_c, ev_v, ev_g, ev_bin, ev_nt, ev_cmp, ev_chn, ev_an, ev_orr, ev_ite, ev_tup, ev_lst, ev_idx, ev_slc, ev_call, ev_blt, ev_mth, xs_ex, xs_set, xs_sub, xs_ret, xs_iff, bt_n, bt_t, b__law_weight, d4, r7, r3, r201, r4, e1, h]
    · simp [xss, tst, bindArg, mapO, startS, wipeS, ev_c, ev_v, ev_g, ev_bin, ev_nt, ev_cmp, ev_chn, ev_an, ev_orr, ev_ite, ev_tup, ev_lst, ev_idx, ev_slc, ev_call, ev_blt, ev_mth, xs_ex, xs_set, xs_sub, xs_ret, xs_iff, bt_n, bt_t, b__law_weight, d4, r7, r3, r201, r4, e1, h]
  · by_cases h : x = 0
    · simp [xss, tst, bindArg, mapO, startS, wipeS, ev_c, ev_v, ev_g, ev_bin, ev_nt, ev_cmp, ev_chn, ev_an, ev_orr, ev_ite, ev_tup, ev_lst, ev_idx, ev_slc, ev_call, ev_blt, ev_mth, xs_ex, xs_set, xs_sub, xs_ret, xs_iff, bt_n, bt_t, h]
    · simp [xss, tst, bindArg, mapO, startS, wipeS, ev_c, ev_v, ev_g, ev_bin, ev_nt, ev_cmp, ev_chn, ev_an, ev_orr, ev_ite, ev_tup, ev_lst, ev_idx, ev_slc, ev_call, ev_blt, ev_mth, xs_ex, xs_set, xs_sub, xs_ret, xs_iff, bt_n, bt_t, h]; omega
theorem state_ok (k : Nat) (ns : List Int) (h : ns.length ≤ 63) : ∃ M', C (k + 1) "_law_state" [.fl (ns.map .int)] [] = .ok (.ref 0) M' ∧ Dice 0 1 3 M' := by
  rw [C, call_of f__law_state]
  have cut : cutD (ns.map D.int) none (some 63) = ns.map .int := by
    have e1 : HT.sIx (ns.map D.int).length (ns.map D.int).length (some 63) = min 63 (ns.map D.int).length := HT.sIx_nat _ _ 63
    have e2 : HT.sIx (ns.map D.int).length 0 none = 0 := rfl
    unfold cutD
    rw [e1, e2, List.drop_zero, Nat.sub_zero]
    exact List.take_of_length_le (by rw [List.length_map]; omega)
  have s1 : ∀ M, slcD (.fl (ns.map .int)) none (some 63) M = .ok (.ref M.length) (M ++ [.lst (ns.map .int)]) := fun M => by
    have hz : (ns.map D.int).length ≤ sizeLine := szN (by rw [List.length_map]; omega)
    simp only [slcD, lstOf, if_pos hz, cut]
  let X : Mem := [.dct [], .lst (ns.map .int), .lst (ns.map .int)]
  let p : D → Bool := fun x => match x with
    | .int i => decide (1000000000000000000 ≤ i)
    | _ => false
  have pw : ∀ M, bop .pow (.int 10) (.int 18) M = .ok (.int 1000000000000000000) M := fun M => rfl
  have lc : ev (g k) (.lc [1, 2] (.n 2) (.e (.slc (.v 0) .non (.som (.c (.int (63)))))) (.cons (.cmp .ge (.v 2) (.bin .pow (.c (.int (10))) (.c (.int (18))))) .nil) (.v 2)) [some (.fl (ns.map .int)), none, none] [.dct [], .lst (ns.map .int)] = .ok (.ref X.length) (X ++ [.lst (((ns.map D.int).filter p).map id)]) := by
    refine ev_lc_filt (i := .one (.lst 2)) (evi_e (x := .ref 2) (M1 := X) ?_ rfl) rfl (fun _ => rfl) (by rw [List.length_map]; omega) ?_
    · simp [xss, tst, bindArg, mapO, startS, wipeS, ev_c, ev_v, ev_g, ev_bin, ev_nt, ev_cmp, ev_chn, ev_an, ev_orr, ev_ite, ev_tup, ev_lst, ev_idx, ev_slc, ev_call, ev_blt, ev_mth, xs_ex, xs_set, xs_sub, xs_ret, xs_iff, bt_n, bt_t, s1, evo, X]
    · intro x hx acc
      obtain ⟨y, hy, rfl⟩ := List.mem_map.mp hx
      refine ⟨_, rfl, ?_⟩
      by_cases hy : 1000000000000000000 ≤ y
      · left
        exact ⟨decide_eq_true hy, by simp [xss, tst, bindArg, mapO, startS, wipeS, ev_c, ev_v, ev_g, ev_bin, ev_nt, ev_cmp, ev_chn, ev_an, ev_orr, ev_ite, ev_tup, ev_lst, ev_idx, ev_slc, ev_call, ev_blt, ev_mth, xs_ex, xs_set, xs_sub, xs_ret, xs_iff, bt_n, bt_t, evc, pw, hy], by simp [xss, tst, bindArg, mapO, startS, wipeS, ev_c, ev_v, ev_g, ev_bin, ev_nt, ev_cmp, ev_chn, ev_an, ev_orr, ev_ite, ev_tup, ev_lst, ev_idx, ev_slc, ev_call, ev_blt, ev_mth, xs_ex, xs_set, xs_sub, xs_ret, xs_iff, bt_n, bt_t]⟩
      · right
        exact ⟨decide_eq_false hy, by simp [xss, tst, bindArg, mapO, startS, wipeS, ev_c, ev_v, ev_g, ev_bin, ev_nt, ev_cmp, ev_chn, ev_an, ev_orr, ev_ite, ev_tup, ev_lst, ev_idx, ev_slc, ev_call, ev_blt, ev_mth, xs_ex, xs_set, xs_sub, xs_ret, xs_iff, bt_n, bt_t, evc, pw, hy]⟩
  have hf : ((ns.map D.int).filter p).map id = (ns.filter fun i => decide (1000000000000000000 ≤ i)).map .int := by
    rw [List.map_id, List.filter_map]; rfl
  rw [hf] at lc
  have hlen := List.length_filter_le (fun i => decide (1000000000000000000 ≤ i)) ns
  generalize (ns.filter fun i => decide (1000000000000000000 ≤ i)) = gr at lc hlen
  refine ⟨[dctM 1 3 0, .lst (ns.map .int), .lst (ns.map .int), .lst (gr.map .int)], ?_, ns, gr, 0, ⟨by decide, by decide, by decide, rfl, rfl, rfl⟩, by omega, Int.le_refl _⟩
  have dk : dctOf ["cells", "great", "at"] [.ref 1, .ref 3, .int 0] = [(.inr "cells", .ref 1), (.inr "great", .ref 3), (.inr "at", .int 0)] := rfl
  have ed : ∀ (l : Irs) (ks : List Str) (σ : S) (M : Mem), ev (g k) (.dct ks l) σ M = (evs (g k) l σ (M ++ [.dct []])).bind fun ds M1 => match M1[M.length]? with
    | some (.dct []) => if ds.length = ks.length ∧ ks.length ≤ 15 then .ok (.ref M.length) (M1.set M.length (.dct (dctOf ks ds))) else .bad
    | _ => .bad := fun _ _ _ _ => by
      simp only [ev] <;> rfl
  simp [xss, tst, bindArg, mapO, startS, wipeS, ev_c, ev_v, ev_g, ev_bin, ev_nt, ev_cmp, ev_chn, ev_an, ev_orr, ev_ite, ev_tup, ev_lst, ev_idx, ev_slc, ev_call, ev_blt, ev_mth, xs_ex, xs_set, xs_sub, xs_ret, xs_iff, bt_n, bt_t, b__law_state, ed, s1, lc, evo, X, dk]
end Mp.K07

set_option Elab.async false
set_option linter.all false
set_option maxRecDepth 100000
set_option maxHeartbeats 4000000
set_option autoImplicit false
namespace Mp.K07
open PySem PySem.Spec L2
variable {d c r : Nat} {M : Mem} {ms : List Int} {ws : List (Int × Int × Int)} {is now t : List Int}
theorem nth_app {l : List Int} {x : Int} {j : Nat} : nth (l ++ [x]) j = if j < l.length then nth l j else if j = l.length then x else 0 := by
  unfold nth
  rw [List.getD_eq_getElem?_getD, List.getD_eq_getElem?_getD]
  by_cases h : j < l.length
  · rw [if_pos h, List.getElem?_append_left h]
  · rw [if_neg h, List.getElem?_append_right (by omega)]
    by_cases h2 : j = l.length
    · rw [if_pos h2, h2]; simp [xss, tst, bindArg, mapO, startS, wipeS, ev_c, ev_v, ev_g, ev_bin, ev_nt, ev_cmp, ev_chn, ev_an, ev_orr, ev_ite, ev_tup, ev_lst, ev_idx, ev_slc, ev_call, ev_blt, ev_mth, xs_ex, xs_set, xs_sub, xs_ret, xs_iff, bt_n, bt_t]
    · rw [if_neg h2, List.getElem?_eq_none (by simp [xss, tst, bindArg, mapO, startS, wipeS, ev_c, ev_v, ev_g, ev_bin, ev_nt, ev_cmp, ev_chn, ev_an, ev_orr, ev_ite, ev_tup, ev_lst, ev_idx, ev_slc, ev_call, ev_blt, ev_mth, xs_ex, xs_set, xs_sub, xs_ret, xs_iff, bt_n, bt_t]; omega)]; rfl
theorem now_ok (v : Valid ms ws is) (k : Nat) (D0 : Dice d c r M) : ∃ now M', C (k + 3) "_law_now" [.ref d, web ms ws is] M = .ok (tI now) M' ∧ Now ms now ∧ Dice d c r M' := by
  rw [C, call_of f__law_now]
  obtain ⟨l1, l2, l3⟩ := D0.lt
  have e0 : atD [tI ms, .tup (ws.map encW), tI is] 0 = some (tI ms) := atD_nat [tI ms, .tup (ws.map encW), tI is] 0
  have n2 := v.n2
  obtain ⟨acc, M', e1, l, rfl, hl, hb, D1, f1, g1⟩ := lc_draw (G := g (k + 2)) (σ := [some (.ref d), some (web ms ws is), none, none]) (M := M) (M1 := M) (vs := [2, 3]) (t := .n 3) (it := .e (.idx (.v 1) (.c (.int (0))))) (ifs := .nil) (e := .bin .mod (.call "_law_next" (.cons (.v 0) .nil) [] .nil) (.v 3)) (i := .one (.snap (ms.map .int))) (its := ms.map .int)
    (fun i acc M' => ∃ l : List Int, acc = l.map .int ∧ l.length = i ∧ (∀ j, j < i → 0 ≤ nth l j ∧ nth l j < nth ms j) ∧ Dice d c r M' ∧ Fr d r M M' ∧ M'[M.length]? = some (.lst acc) ∧ i ≤ ms.length)
    (evi_e (x := tI ms) (by simp [xss, tst, bindArg, mapO, startS, wipeS, ev_c, ev_v, ev_g, ev_bin, ev_nt, ev_cmp, ev_chn, ev_an, ev_orr, ev_ite, ev_tup, ev_lst, ev_idx, ev_slc, ev_call, ev_blt, ev_mth, xs_ex, xs_set, xs_sub, xs_ret, xs_iff, bt_n, bt_t, e0]) rfl) (fun _ => rfl) (by rw [List.length_map]; omega) ⟨[], rfl, rfl, fun j h => by omega, D0.app, .app, last_get _ _, Nat.zero_le _⟩
    (fun j acc M' ⟨l, h1, h2, _, _, _, h3, h4⟩ => ⟨h3, by rw [h1, List.length_map]; omega⟩)
    (by
      rintro j x acc M' hx ⟨l, rfl, hl, hb, D1, f1, g1, hle⟩
      obtain ⟨m, hm, em, rfl⟩ := get_ints hx
      have hj := (List.getElem?_eq_some_iff.mp em).1
      have vm := v.m m hm
      obtain ⟨y, M4, q1, q2, q3, D2, f2⟩ := next_ok k D1
      have md := mod_int M4 y m (by omega)
      have g4 := f2.keep g1 (by omega) (by omega)
      refine ⟨_, rfl, true, M', evc_nil, .inr ⟨rfl, .int (y % m), M4, by simp [xss, tst, bindArg, mapO, startS, wipeS, ev_c, ev_v, ev_g, ev_bin, ev_nt, ev_cmp, ev_chn, ev_an, ev_orr, ev_ite, ev_tup, ev_lst, ev_idx, ev_slc, ev_call, ev_blt, ev_mth, xs_ex, xs_set, xs_sub, xs_ret, xs_iff, bt_n, bt_t, q1, md], g4, l ++ [y % m], by simp, by simp [xss, tst, bindArg, mapO, startS, wipeS, ev_c, ev_v, ev_g, ev_bin, ev_nt, ev_cmp, ev_chn, ev_an, ev_orr, ev_ite, ev_tup, ev_lst, ev_idx, ev_slc, ev_call, ev_blt, ev_mth, xs_ex, xs_set, xs_sub, xs_ret, xs_iff, bt_n, bt_t, hl], ?_, D2.set (by omega) (by omega) (by omega), (f1.trans f2).set (Nat.le_refl _), set_self g4, by omega⟩⟩
      intro i hi
      rw [nth_app]
      by_cases h : i < l.length
      · rw [if_pos h]; exact hb i (by omega)
      · rw [if_neg h, if_pos (by omega), show i = j by omega, nth_of em]
        exact ⟨Int.emod_nonneg _ (by omega), Int.emod_lt_of_pos _ (by omega)⟩)
  have tl := tup_lst g1.1
  refine ⟨l, M', ?_, ⟨by simpa [xss, tst, bindArg, mapO, startS, wipeS, ev_c, ev_v, ev_g, ev_bin, ev_nt, ev_cmp, ev_chn, ev_an, ev_orr, ev_ite, ev_tup, ev_lst, ev_idx, ev_slc, ev_call, ev_blt, ev_mth, xs_ex, xs_set, xs_sub, xs_ret, xs_iff, bt_n, bt_t] using hl, fun i m x em ex => ?_⟩, D1⟩
  · generalize web ms ws is = W at *
    simp [xss, tst, bindArg, mapO, startS, wipeS, ev_c, ev_v, ev_g, ev_bin, ev_nt, ev_cmp, ev_chn, ev_an, ev_orr, ev_ite, ev_tup, ev_lst, ev_idx, ev_slc, ev_call, ev_blt, ev_mth, xs_ex, xs_set, xs_sub, xs_ret, xs_iff, bt_n, bt_t, b__law_now, e1, tl]
  · have := hb i (by rw [List.length_map]; exact (List.getElem?_eq_some_iff.mp em).1)
    rw [nth_of em, nth_of ex] at this
    exact this
end Mp.K07

set_option Elab.async false
set_option linter.all false
set_option maxRecDepth 100000
set_option maxHeartbeats 4000000
set_option autoImplicit false
namespace Mp.K07
open PySem PySem.Spec L2
variable {d c r : Nat} {M : Mem} {ms : List Int} {ws : List (Int × Int × Int)} {is now t : List Int}
def bodyS : Sms := (.cons (.set (.t (.n 4)) (.call "_law_next" (.cons (.v 0) .nil) [] .nil)) (.cons (.set (.t (.n 5)) (.idx (.lst (.cons (.bin .sub (.bin .mod (.bin .fdiv (.v 4) (.c (.int (6)))) (.c (.int (7)))) (.c (.int (3)))) (.cons (.bin .sub (.bin .mod (.bin .fdiv (.v 4) (.c (.int (6)))) (.c (.int (41)))) (.c (.int (20)))) (.cons (.c (.int (0))) (.cons (.bin .sub (.v 4) (.c (.int (32768)))) (.cons (.bin .sub (.bin .pow (.c (.int (10))) (.c (.int (40)))) (.bin .mod (.bin .fdiv (.v 4) (.c (.int (6)))) (.c (.int (50))))) (.cons (.bin .sub (.bin .mod (.bin .fdiv (.v 4) (.c (.int (6)))) (.c (.int (50)))) (.bin .pow (.c (.int (10))) (.c (.int (40))))) .nil))))))) (.bin .mod (.v 4) (.c (.int (6)))))) (.cons (.ex (.mth .append (.v 2) (.cons (.ite (.cmp .isin (.v 3) (.idx (.v 1) (.c (.int (2))))) (.v 5) (.c (.int (0)))) .nil))) .nil)))
theorem push_turn (k : Nat) {M' : Mem} {i f : Nat} {l : List Int} (D1 : Dice d c r M') (hf : M'[f]? = some (.lst (l.map .int))) (h1 : f ≠ d) (h2 : f ≠ c) (h3 : f ≠ r) (hl : l.length ≤ 1000) (x4 x5 : Option D) :
    ∃ y y4 y5 M2, xss (g (k + 2)) bodyS [some (.ref d), some (web ms ws is), some (.ref f), some (.int (i : Nat)), x4, x5] M' = .nx [some (.ref d), some (web ms ws is), some (.ref f), some (.int (i : Nat)), y4, y5] M2 ∧ Dice d c r M2 ∧ M2[f]? = some (.lst ((l ++ [y]).map .int)) ∧
      (-10000000000000000000000000000000000000000 ≤ y ∧ y ≤ 10000000000000000000000000000000000000000 ∧ (y ≠ 0 → (i : Int) ∈ is)) := by
  obtain ⟨n, M4, q1, q2, q3, D2, f2⟩ := next_ok k D1
  have g4 := f2.keep hf h1 h3
  have e2 : atD [tI ms, .tup (ws.map encW), tI is] 2 = some (tI is) := atD_nat [tI ms, .tup (ws.map encW), tI is] 2
  have d6 := fun M x => fdiv_int M x 6 (by decide) (log_lit (by decide) (by decide))
  have r7 := fun M x => mod_int M x 7 (by decide)
  have r41 := fun M x => mod_int M x 41 (by decide)
  have r50 := fun M x => mod_int M x 50 (by decide)
  have r6 := fun M x => mod_int M x 6 (by decide)
  have pw : ∀ M, bop .pow (.int 10) (.int 40) M = .ok (.int 10000000000000000000000000000000000000000) M := fun M => rfl
  have u0 := Int.emod_nonneg n (by decide : (6 : Int) ≠ 0)
  have u1 := Int.emod_lt_of_pos n (by decide : (0 : Int) < 6)
  obtain ⟨j, hj⟩ := Int.eq_ofNat_of_zero_le u0
  let s : List Int := [n / 6 % 7 - 3, n / 6 % 41 - 20, 0, n - 32768, 10000000000000000000000000000000000000000 - n / 6 % 50, n / 6 % 50 - 10000000000000000000000000000000000000000]
  have hs : ∀ x ∈ s, -10000000000000000000000000000000000000000 ≤ x ∧ x ≤ 10000000000000000000000000000000000000000 := by
    intro x hx
    simp only [s, List.mem_cons, List.not_mem_nil, or_false] at hx
    rcases hx with rfl | rfl | rfl | rfl | rfl | rfl <;> omega
  have e1 : idxD (.ref M4.length) (.int (n % 6)) (M4 ++ [.lst [.int (n / 6 % 7 - 3), .int (n / 6 % 41 - 20), .int 0, .int (n - 32768), .int (10000000000000000000000000000000000000000 - n / 6 % 50), .int (n / 6 % 50 - 10000000000000000000000000000000000000000)]]) = some (.int (nth s j)) := by
    rw [idx_lst (last_get _ _), hj, atD_nat]
    exact at_int (l := s) (by show j < 6; omega)
  have hx := hs _ (nth_mem (l := s) (by show j < 6; omega))
  generalize nth s j = x at *
  have g5 : (M4 ++ [MO.lst [.int (n / 6 % 7 - 3), .int (n / 6 % 41 - 20), .int 0, .int (n - 32768), .int (10000000000000000000000000000000000000000 - n / 6 % 50), .int (n / 6 % 50 - 10000000000000000000000000000000000000000)]])[f]? = some (.lst (l.map .int)) := get_app g4
  have D3 := D2.app (N := [MO.lst [.int (n / 6 % 7 - 3), .int (n / 6 % 41 - 20), .int 0, .int (n - 32768), .int (10000000000000000000000000000000000000000 - n / 6 % 50), .int (n / 6 % 50 - 10000000000000000000000000000000000000000)]])
  have il := isL_of g5
  have ap := fun y => append_lst (d := .int y) g5 (by rw [List.length_map]; exact Nat.lt_of_le_of_lt hl (by decide))
  have inn := fun M => inD_ints M (i : Int) is
  generalize hM5 : M4 ++ [MO.lst [.int (n / 6 % 7 - 3), .int (n / 6 % 41 - 20), .int 0, .int (n - 32768), .int (10000000000000000000000000000000000000000 - n / 6 % 50), .int (n / 6 % 50 - 10000000000000000000000000000000000000000)]] = M5 at *
  refine ⟨if (i : Int) ∈ is then x else 0, some (.int n), some (.int x), M5.set f (.lst (l.map .int ++ [.int (if (i : Int) ∈ is then x else 0)])), ?_, D3.set h1 h2 h3, by rw [set_self g5]; simp, ?_⟩
  · by_cases hi : (i : Int) ∈ is
    · simp [xss, tst, bindArg, mapO, startS, wipeS, ev_c, ev_v, ev_g, ev_bin, ev_nt, ev_cmp, ev_chn, ev_an, ev_orr, ev_ite, ev_tup, ev_lst, ev_idx, ev_slc, ev_call, ev_blt, ev_mth, xs_ex, xs_set, xs_sub, xs_ret, xs_iff, bt_n, bt_t, bodyS, q1, d6, r7, r41, r50, r6, pw, hM5, e1, il, ap, inn, e2, hi]
    · simp [xss, tst, bindArg, mapO, startS, wipeS, ev_c, ev_v, ev_g, ev_bin, ev_nt, ev_cmp, ev_chn, ev_an, ev_orr, ev_ite, ev_tup, ev_lst, ev_idx, ev_slc, ev_call, ev_blt, ev_mth, xs_ex, xs_set, xs_sub, xs_ret, xs_iff, bt_n, bt_t, bodyS, q1, d6, r7, r41, r50, r6, pw, hM5, e1, il, ap, inn, e2, hi]
  · by_cases hi : (i : Int) ∈ is
    · rw [if_pos hi]; exact ⟨hx.1, hx.2, fun _ => hi⟩
    · rw [if_neg hi]; exact ⟨by decide, by decide, fun h => absurd rfl h⟩
end Mp.K07

set_option Elab.async false
set_option linter.all false
set_option maxRecDepth 100000
set_option maxHeartbeats 4000000
set_option autoImplicit false
namespace Mp.K07
open PySem PySem.Spec L2
variable {d c r : Nat} {M : Mem} {ms : List Int} {ws : List (Int × Int × Int)} {is now t : List Int}
def PP (W : D) (is : List Int) (d c r f : Nat) (i : Nat) (σ : S) (M' : Mem) : Prop := ∃ (l : List Int) (a b c0 : Option D), σ = [some (.ref d), some W, some (.ref f), a, b, c0] ∧ l.length = i ∧ Dice d c r M' ∧ M'[f]? = some (.lst (l.map .int)) ∧ ∀ j, j < i → -10000000000000000000000000000000000000000 ≤ nth l j ∧ nth l j ≤ 10000000000000000000000000000000000000000 ∧ (nth l j ≠ 0 → (j : Int) ∈ is)
theorem push_step (k : Nat) {f n : Nat} {R : List D} (gR : ∀ (i : Nat) (x : D), R[i]? = some x → i < n ∧ x = .int (i : Nat)) (hn : n ≤ 10) (h1 : f ≠ d) (h2 : f ≠ c) (h3 : f ≠ r) (i : Nat) (x : D) (σ : S) (M' : Mem) (hx : R[i]? = some x) (p : PP (web ms ws is) is d c r f i σ M') : ∃ σ1 σ2 M2, bindT (.n 3) x σ = some σ1 ∧ (xss (g (k + 2)) bodyS σ1 M' = .nx σ2 M2 ∨ xss (g (k + 2)) bodyS σ1 M' = .ct σ2 M2) ∧ PP (web ms ws is) is d c r f (i + 1) σ2 M2 := by
  obtain ⟨l, a, b, c0, rfl, hl, D1, g1, hb⟩ := p
  obtain ⟨hi, rfl⟩ := gR i x hx
  obtain ⟨y, y4, y5, M2, q, D2, g2, hy⟩ := push_turn (ms := ms) (ws := ws) (is := is) k (i := i) D1 g1 h1 h2 h3 (by omega) b c0
  refine ⟨_, _, M2, bt_n, .inl q, l ++ [y], _, _, _, rfl, by rw [List.length_append, hl]; rfl, D2, g2, fun j hj => ?_⟩
  rw [nth_app]
  by_cases h : j < l.length
  · rw [if_pos h]; exact hb j (by omega)
  · rw [if_neg h, if_pos (by omega), show j = i by omega]; exact hy
end Mp.K07

set_option Elab.async false
set_option linter.all false
set_option maxRecDepth 100000
set_option maxHeartbeats 4000000
set_option autoImplicit false
namespace Mp.K07
open PySem PySem.Spec L2
variable {d c r : Nat} {M : Mem} {ms : List Int} {ws : List (Int × Int × Int)} {is now t : List Int}
theorem pushes_ok (v : Valid ms ws is) (k : Nat) (D0 : Dice d c r M) : ∃ t M', C (k + 3) "_law_pushes" [.ref d, web ms ws is] M = .ok (tI t) M' ∧ Push ms is t ∧ Dice d c r M' := by
  rw [C, call_of f__law_pushes]
  obtain ⟨l1, l2, l3⟩ := D0.lt
  have e0 : atD [tI ms, .tup (ws.map encW), tI is] 0 = some (tI ms) := atD_nat [tI ms, .tup (ws.map encW), tI is] 0
  have n2 := v.n2
  obtain ⟨R, hR, lR, gR⟩ := rng_has (n := ms.length) (Nat.le_trans n2 (by decide))
  have hevs : evs (g (k + 2)) (.cons (.blt .len (.cons (.idx (.v 1) (.c (.int (0)))) .nil)) .nil) [some (.ref d), some (web ms ws is), some (.ref M.length), none, none, none] (M ++ [.lst []]) = .ok [.int (ms.length : Nat)] (M ++ [.lst []]) := by simp [xss, tst, bindArg, mapO, startS, wipeS, ev_c, ev_v, ev_g, ev_bin, ev_nt, ev_cmp, ev_chn, ev_an, ev_orr, ev_ite, ev_tup, ev_lst, ev_idx, ev_slc, ev_call, ev_blt, ev_mth, xs_ex, xs_set, xs_sub, xs_ret, xs_iff, bt_n, bt_t, e0]
  have hev := evi_rngs hevs hR
  have p0 : PP (web ms ws is) is d c r M.length 0 [some (.ref d), some (web ms ws is), some (.ref M.length), none, none, none] (M ++ [.lst []]) := ⟨[], none, none, none, rfl, rfl, D0.app, last_get _ _, fun j h => absurd h (Nat.not_lt_zero _)⟩
  obtain ⟨σ', M', e1, p⟩ := fr_one (g := bindT (.n 3)) (b := xss (g (k + 2)) bodyS) (l := R) (PP (web ms ws is) is d c r M.length) p0 (push_step k gR n2 (by omega) (by omega) (by omega))
  have hx : xs (g (k + 2)) (.fr (.n 3) (.rng (.cons (.blt .len (.cons (.idx (.v 1) (.c (.int (0)))) .nil)) .nil)) bodyS) [some (.ref d), some (web ms ws is), some (.ref M.length), none, none, none] (M ++ [.lst []]) = .nx σ' M' := xs_fr hev now_one e1
  rw [lR] at p
  obtain ⟨l, a, b, c0, rfl, hl, D1, g1, hb⟩ := p
  have tl := tup_lst g1
  have eb : b__law_pushes = .cons (.set (.t (.n 2)) (.lst .nil)) (.cons (.fr (.n 3) (.rng (.cons (.blt .len (.cons (.idx (.v 1) (.c (.int (0)))) .nil)) .nil)) bodyS) (.cons (.ret (.blt .tuple (.cons (.v 2) .nil))) .nil)) := rfl
  refine ⟨l, M', ?_, ⟨hl, fun i x ex => ?_⟩, D1⟩
  · generalize web ms ws is = W at *
    have s1 : xs (g (k + 2)) (.set (.t (.n 2)) (.lst .nil)) [some (.ref d), some W, none, none, none, none] M = .nx [some (.ref d), some W, some (.ref M.length), none, none, none] (M ++ [.lst []]) := by
      simp only [xs_set, ev_lst, evs_nil, Res.bind_ok, List.length_nil, sz0, if_true, Res.fl_ok, bt_n, nxO_some, List.set_cons_succ, List.set_cons_zero]
    have s3 : xs (g (k + 2)) (.ret (.blt .tuple (.cons (.v 2) .nil))) [some (.ref d), some W, some (.ref M.length), a, b, c0] M' = .rt (tI l) M' := by
      have hv : ev (g (k + 2)) (.v 2) [some (.ref d), some W, some (.ref M.length), a, b, c0] M' = .ok (.ref M.length) M' := ev_v rfl
      rw [xs_ret, ev_blt, evs_cons, hv, Res.bind_ok, evs_nil, Res.bind_ok, Res.bind_ok, tl]
      rfl
    show ran (xss (g (k + 2)) b__law_pushes [some (.ref d), some W, none, none, none, none] M) = _
    rw [eb]
    simp only [xss]
    rw [s1, seq_nx, hx, seq_nx, s3, seq_rt, ran_rt]
  · have := hb i (by rw [← hl]; exact (List.getElem?_eq_some_iff.mp ex).1)
    rw [nth_of ex] at this
    exact this
end Mp.K07

set_option Elab.async false
set_option linter.all false
set_option maxRecDepth 100000
set_option maxHeartbeats 4000000
set_option autoImplicit false
namespace Mp.K07
open PySem PySem.Spec L2
variable {d c r : Nat} {M : Mem}
/-- the first loop's turn: one more modulus -/
def body1 : Sms := (.cons (.set (.t (.n 7)) (.call "_law_next" (.cons (.v 0) .nil) [] .nil)) (.cons (.ex (.mth .append (.v 4) (.cons (.bin .add (.c (.int (2))) (.idx (.lst (.cons (.bin .mod (.bin .fdiv (.v 7) (.c (.int (3)))) (.c (.int (3)))) (.cons (.bin .mod (.bin .fdiv (.v 7) (.c (.int (3)))) (.c (.int (9)))) (.cons (.bin .mod (.bin .fdiv (.v 7) (.c (.int (3)))) (.bin .sub (.v 2) (.c (.int (1))))) .nil)))) (.bin .mod (.v 7) (.c (.int (3)))))) .nil))) .nil))
abbrev slW (d m w : Nat) (most many : Int) (a b u s z : Option D) : S := [some (.ref d), some (.int most), some (.int 1000), some (.int many), some (.ref m), some (.ref w), a, b, u, s, z]
theorem web_turn1 (k : Nat) {M' : Mem} {m w : Nat} {l : List Int} {o : MO} (D1 : Dice d c r M') (hm : M'[m]? = some (.lst (l.map .int))) (hw : M'[w]? = some o) (m1 : m ≠ d) (m2 : m ≠ c) (m3 : m ≠ r) (w1 : w ≠ d) (w3 : w ≠ r) (mw : m ≠ w) (hl : l.length ≤ 1000) (most many : Int) (a b u s z : Option D) :
    ∃ y b' M2, xss (g (k + 2)) body1 (slW d m w most many a b u s z) M' = .nx (slW d m w most many a b' u s z) M2 ∧ Dice d c r M2 ∧ M2[m]? = some (.lst ((l ++ [y]).map .int)) ∧ M2[w]? = some o ∧ 2 ≤ y ∧ y ≤ 1000 ∧ M'.length ≤ M2.length := by
  obtain ⟨n, M4, q1, q2, q3, D2, f2⟩ := next_ok k D1
  have g4 := f2.keep hm m1 m3
  have h4 := f2.keep hw w1 w3
  have le4 := f2.len
  have d3 := fun M x => fdiv_int M x 3 (by decide) (log_lit (by decide) (by decide))
  have r3 := fun M x => mod_int M x 3 (by decide)
  have r9 := fun M x => mod_int M x 9 (by decide)
  have r999 := fun M x => mod_int M x 999 (by decide)
  have u0 := Int.emod_nonneg n (by decide : (3 : Int) ≠ 0)
  have u1 := Int.emod_lt_of_pos n (by decide : (0 : Int) < 3)
  obtain ⟨j, hj⟩ := Int.eq_ofNat_of_zero_le u0
  let t : List Int := [n / 3 % 3, n / 3 % 9, n / 3 % 999]
  have ht : ∀ x ∈ t, 0 ≤ x ∧ x ≤ 998 := by
    intro x hx
    simp only [t, List.mem_cons, List.not_mem_nil, or_false] at hx
    rcases hx with rfl | rfl | rfl <;> omega
  have e1 : idxD (.ref M4.length) (.int (n % 3)) (M4 ++ [.lst [.int (n / 3 % 3), .int (n / 3 % 9), .int (n / 3 % 999)]]) = some (.int (nth t j)) := by
    rw [idx_lst (last_get _ _), hj, atD_nat]
    exact at_int (l := t) (by show j < 3; omega)
  have hx := ht _ (nth_mem (l := t) (by show j < 3; omega))
  generalize nth t j = x at *
  have g5 : (M4 ++ [MO.lst [.int (n / 3 % 3), .int (n / 3 % 9), .int (n / 3 % 999)]])[m]? = some (.lst (l.map .int)) := get_app g4
  have h5 : (M4 ++ [MO.lst [.int (n / 3 % 3), .int (n / 3 % 9), .int (n / 3 % 999)]])[w]? = some o := get_app h4
  have D3 := D2.app (N := [MO.lst [.int (n / 3 % 3), .int (n / 3 % 9), .int (n / 3 % 999)]])
  have le5 : M4.length ≤ (M4 ++ [MO.lst [.int (n / 3 % 3), .int (n / 3 % 9), .int (n / 3 % 999)]]).length := by simp [xss, tst, bindArg, mapO, startS, wipeS, ev_c, ev_v, ev_g, ev_bin, ev_nt, ev_cmp, ev_chn, ev_an, ev_orr, ev_ite, ev_tup, ev_lst, ev_idx, ev_slc, ev_call, ev_blt, ev_mth, xs_ex, xs_set, xs_sub, xs_ret, xs_iff, bt_n, bt_t]
  have il := isL_of g4
  have ap := fun y => append_lst (d := .int y) g5 (by rw [List.length_map]; exact Nat.lt_of_le_of_lt hl (by decide))
  generalize hM5 : M4 ++ [MO.lst [.int (n / 3 % 3), .int (n / 3 % 9), .int (n / 3 % 999)]] = M5 at *
  refine ⟨2 + x, some (.int n), M5.set m (.lst (l.map .int ++ [.int (2 + x)])), ?_, D3.set m1 m2 m3, by rw [set_self g5]; simp, by rw [List.getElem?_set_ne mw, h5], by omega, by omega, by rw [List.length_set]; omega⟩
  simp [xss, tst, bindArg, mapO, startS, wipeS, ev_c, ev_v, ev_g, ev_bin, ev_nt, ev_cmp, ev_chn, ev_an, ev_orr, ev_ite, ev_tup, ev_lst, ev_idx, ev_slc, ev_call, ev_blt, ev_mth, xs_ex, xs_set, xs_sub, xs_ret, xs_iff, bt_n, bt_t, body1, q1, d3, r3, r9, r999, hM5, e1, il, ap]
def P1 (d c r m w : Nat) (most many : Int) (L : Nat) (i : Nat) (σ : S) (M' : Mem) : Prop := ∃ (l : List Int) (a b : Option D), σ = slW d m w most many a b none none none ∧ l.length = i ∧ (∀ x ∈ l, 2 ≤ x ∧ x ≤ 1000) ∧ Dice d c r M' ∧ M'[m]? = some (.lst (l.map .int)) ∧ M'[w]? = some (.lst []) ∧ L ≤ M'.length
theorem web_step1 (k : Nat) {m w n L : Nat} {most many : Int} {R : List D} (gR : ∀ (i : Nat) (x : D), R[i]? = some x → i < n ∧ x = .int (i : Nat)) (hn : n ≤ 10) (m1 : m ≠ d) (m2 : m ≠ c) (m3 : m ≠ r) (w1 : w ≠ d) (w3 : w ≠ r) (mw : m ≠ w) (i : Nat) (x : D) (σ : S) (M' : Mem) (hx : R[i]? = some x) (p : P1 d c r m w most many L i σ M') :
    ∃ σ1 σ2 M2, bindT (.n 6) x σ = some σ1 ∧ (xss (g (k + 2)) body1 σ1 M' = .nx σ2 M2 ∨ xss (g (k + 2)) body1 σ1 M' = .ct σ2 M2) ∧ P1 d c r m w most many L (i + 1) σ2 M2 := by
  obtain ⟨l, a, b, rfl, hl, hb, D1, g1, g2, le⟩ := p
  obtain ⟨hi, rfl⟩ := gR i x hx
  obtain ⟨y, b', M2, q, D2, k1, k2, y1, y2, le2⟩ := web_turn1 k D1 g1 g2 m1 m2 m3 w1 w3 mw (by omega) most many (some (.int (i : Nat))) b none none none
  refine ⟨_, _, M2, bt_n, .inl q, l ++ [y], _, _, rfl, by rw [List.length_append, hl]; rfl, fun z hz => ?_, D2, k1, k2, by omega⟩
  rcases List.mem_append.mp hz with hz | hz
  · exact hb z hz
  · rw [List.mem_singleton.mp hz]; exact ⟨y1, y2⟩
end Mp.K07

set_option Elab.async false
set_option linter.all false
set_option maxRecDepth 100000
set_option maxHeartbeats 4000000
set_option autoImplicit false
namespace Mp.K07
open PySem PySem.Spec L2
variable {d c r : Nat} {M : Mem}
def body2 : Sms := (.cons (.iff (.cmp .lt (.bin .mod (.call "_law_next" (.cons (.v 0) .nil) [] .nil) (.c (.int (5)))) (.c (.int (2)))) (.cons (.ex (.mth .append (.v 5) (.cons (.tup (.cons (.v 8) (.cons (.v 6) (.cons (.call "_law_weight" (.cons (.call "_law_next" (.cons (.v 0) .nil) [] .nil) .nil) [] .nil) .nil)))) .nil))) .nil) .nil) .nil)
theorem web_turn2 (k : Nat) {M' : Mem} {m w : Nat} {ws : List (Int × Int × Int)} {o : MO} (D1 : Dice d c r M') (hm : M'[m]? = some o) (hw : M'[w]? = some (.lst (ws.map encW))) (m1 : m ≠ d) (m3 : m ≠ r) (w1 : w ≠ d) (w2 : w ≠ c) (w3 : w ≠ r) (mw : m ≠ w) (hl : ws.length ≤ 1000) (most many u v : Int) (b s z : Option D) :
    ∃ e M2, xss (g (k + 2)) body2 (slW d m w most many (some (.int v)) b (some (.int u)) s z) M' = .nx (slW d m w most many (some (.int v)) b (some (.int u)) s z) M2 ∧ Dice d c r M2 ∧ M2[w]? = some (.lst ((ws ++ e).map encW)) ∧ M2[m]? = some o ∧ M'.length ≤ M2.length ∧ (e = [] ∨ ∃ y, e = [(u, v, y)] ∧ -100 ≤ y ∧ y ≤ 100 ∧ y ≠ 0) := by
  obtain ⟨n, M4, q1, _, _, D2, f2⟩ := next_ok k D1
  have g4 := f2.keep hw w1 w3
  have h4 := f2.keep hm m1 m3
  have le4 := f2.len
  have r5 := fun M x => mod_int M x 5 (by decide)
  by_cases hn : n % 5 < 2
  · obtain ⟨n2, M5, q2, p2, _, D3, f3⟩ := next_ok k D2
    obtain ⟨y, N, q3, y1, y2, y3⟩ := weight_ok (k + 1) n2 p2 M5
    have g5 := f3.keep g4 w1 w3
    have h5 := f3.keep h4 m1 m3
    have le5 := f3.len
    have il := isL_of g4
    have D4 := D3.app (N := N)
    have g6 : (M5 ++ N)[w]? = some (.lst (ws.map encW)) := get_app g5
    have h6 : (M5 ++ N)[m]? = some o := get_app h5
    have le6 : M5.length ≤ (M5 ++ N).length := by simp [xss, tst, bindArg, mapO, startS, wipeS, ev_c, ev_v, ev_g, ev_bin, ev_nt, ev_cmp, ev_chn, ev_an, ev_orr, ev_ite, ev_tup, ev_lst, ev_idx, ev_slc, ev_call, ev_blt, ev_mth, xs_ex, xs_set, xs_sub, xs_ret, xs_iff, bt_n, bt_t]
    have ap := append_lst (d := .tup [.int u, .int v, .int y]) g6 (by rw [List.length_map]; exact Nat.lt_of_le_of_lt hl (by decide))
    generalize M5 ++ N = M6 at *
    refine ⟨[(u, v, y)], M6.set w (.lst (ws.map encW ++ [.tup [.int u, .int v, .int y]])), ?_, D4.set w1 w2 w3, by rw [set_self g6]; simp [xss, tst, bindArg, mapO, startS, wipeS, ev_c, ev_v, ev_g, ev_bin, ev_nt, ev_cmp, ev_chn, ev_an, ev_orr, ev_ite, ev_tup, ev_lst, ev_idx, ev_slc, ev_call, ev_blt, ev_mth, xs_ex, xs_set, xs_sub, xs_ret, xs_iff, bt_n, bt_t, encW], by rw [List.getElem?_set_ne (Ne.symm mw), h6], by rw [List.length_set]; omega, .inr ⟨y, rfl, y1, y2, y3⟩⟩
    simp [xss, tst, bindArg, mapO, startS, wipeS, ev_c, ev_v, ev_g, ev_bin, ev_nt, ev_cmp, ev_chn, ev_an, ev_orr, ev_ite, ev_tup, ev_lst, ev_idx, ev_slc, ev_call, ev_blt, ev_mth, xs_ex, xs_set, xs_sub, xs_ret, xs_iff, bt_n, bt_t, body2, q1, r5, hn, il, q2, q3, ap]
  · refine ⟨[], M4, ?_, D2, by simpa [xss, tst, bindArg, mapO, startS, wipeS, ev_c, ev_v, ev_g, ev_bin, ev_nt, ev_cmp, ev_chn, ev_an, ev_orr, ev_ite, ev_tup, ev_lst, ev_idx, ev_slc, ev_call, ev_blt, ev_mth, xs_ex, xs_set, xs_sub, xs_ret, xs_iff, bt_n, bt_t] using g4, h4, le4, .inl rfl⟩
    simp [xss, tst, bindArg, mapO, startS, wipeS, ev_c, ev_v, ev_g, ev_bin, ev_nt, ev_cmp, ev_chn, ev_an, ev_orr, ev_ite, ev_tup, ev_lst, ev_idx, ev_slc, ev_call, ev_blt, ev_mth, xs_ex, xs_set, xs_sub, xs_ret, xs_iff, bt_n, bt_t, body2, q1, r5, hn]
end Mp.K07

set_option Elab.async false
set_option linter.all false
set_option maxRecDepth 100000
set_option maxHeartbeats 4000000
set_option autoImplicit false
namespace Mp.K07
open PySem PySem.Spec L2
variable {d c r : Nat} {M : Mem}
/-- the wires drawn before (u, v) -/
structure WOk (n : Nat) (ws : List (Int × Int × Int)) (u v : Nat) : Prop where
  ok : ∀ x ∈ ws, 0 ≤ x.1 ∧ x.1 < x.2.1 ∧ x.2.1 < n ∧ -100 ≤ x.2.2 ∧ x.2.2 ≤ 100 ∧ x.2.2 ≠ 0
  bef : ∀ x ∈ ws, x.1 < u ∨ x.1 = u ∧ x.2.1 < v
  srt : ws.Pairwise fun x y => x.1 < y.1 ∨ x.1 = y.1 ∧ x.2.1 < y.2.1
theorem WOk.add {n u v : Nat} {ws e : List (Int × Int × Int)} (h : WOk n ws u v) (huv : u < v) (hv : v < n) (he : e = [] ∨ ∃ y, e = [((u : Int), (v : Int), y)] ∧ -100 ≤ y ∧ y ≤ 100 ∧ y ≠ 0) : WOk n (ws ++ e) u (v + 1) ∧ e.length ≤ 1 := by
  rcases he with rfl | ⟨y, rfl, y1, y2, y3⟩
  · rw [List.append_nil]
    exact ⟨⟨h.ok, fun x hx => by have := h.bef x hx; omega, h.srt⟩, Nat.zero_le _⟩
  · refine ⟨⟨fun x hx => ?_, fun x hx => ?_, ?_⟩, Nat.le_refl _⟩
    · rcases List.mem_append.mp hx with hx | hx
      · exact h.ok x hx
      · rw [List.mem_singleton.mp hx]
        exact ⟨by simp, by show (u : Int) < (v : Int); omega, by show (v : Int) < (n : Int); omega, y1, y2, y3⟩
    · rcases List.mem_append.mp hx with hx | hx
      · have := h.bef x hx; omega
      · rw [List.mem_singleton.mp hx]
        right
        exact ⟨rfl, by show (v : Int) < ((v + 1 : Nat) : Int); omega⟩
    · rw [List.pairwise_append]
      refine ⟨h.srt, List.pairwise_singleton _ _, fun x hx y' hy => ?_⟩
      rw [List.mem_singleton.mp hy]
      exact h.bef x hx
theorem WOk.next {n u v : Nat} {ws : List (Int × Int × Int)} (h : WOk n ws u v) : WOk n ws (u + 1) (u + 2) := ⟨h.ok, fun x hx => by have := h.bef x hx; have := h.ok x hx; omega, h.srt⟩
def P2 (d c r m w : Nat) (most many : Int) (L n u : Nat) (o : MO) (b : Option D) (i : Nat) (σ : S) (M' : Mem) : Prop := ∃ (ws : List (Int × Int × Int)) (a : Option D), σ = slW d m w most many a b (some (.int (u : Nat))) none none ∧ WOk n ws u (u + 1 + i) ∧ ws.length ≤ 10 * u + i ∧ Dice d c r M' ∧ M'[w]? = some (.lst (ws.map encW)) ∧ M'[m]? = some o ∧ L ≤ M'.length
theorem web_step2 (k : Nat) {m w n L u : Nat} {most many : Int} {o : MO} {b : Option D} {R : List D} (gR : ∀ (i : Nat) (x : D), R[i]? = some x → (u + 1) + i < n ∧ x = .int ((u + 1 + i : Nat) : Int)) (hn : n ≤ 10) (m1 : m ≠ d) (m3 : m ≠ r) (w1 : w ≠ d) (w2 : w ≠ c) (w3 : w ≠ r) (mw : m ≠ w) (i : Nat) (x : D) (σ : S) (M' : Mem) (hx : R[i]? = some x) (p : P2 d c r m w most many L n u o b i σ M') :
    ∃ σ1 σ2 M2, bindT (.n 6) x σ = some σ1 ∧ (xss (g (k + 2)) body2 σ1 M' = .nx σ2 M2 ∨ xss (g (k + 2)) body2 σ1 M' = .ct σ2 M2) ∧ P2 d c r m w most many L n u o b (i + 1) σ2 M2 := by
  obtain ⟨ws, a, rfl, hw, hl, D1, g1, g2, le⟩ := p
  obtain ⟨hi, rfl⟩ := gR i x hx
  obtain ⟨e, M2, q, D2, k1, k2, le2, he⟩ := web_turn2 k D1 g2 g1 m1 m3 w1 w2 w3 mw (by omega) most many (u : Int) ((u + 1 + i : Nat) : Int) b none none
  obtain ⟨wo, el⟩ := hw.add (by omega) hi he
  exact ⟨_, _, M2, bt_n, .inl q, ws ++ e, _, rfl, wo, by rw [List.length_append]; omega, D2, k1, k2, by omega⟩
end Mp.K07

set_option Elab.async false
set_option linter.all false
set_option maxRecDepth 100000
set_option maxHeartbeats 4000000
set_option autoImplicit false
namespace Mp.K07
open PySem PySem.Spec L2
variable {d c r : Nat} {M : Mem}
def body3 : Sms := (.cons (.fr (.n 6) (.rng (.cons (.bin .add (.v 8) (.c (.int (1)))) (.cons (.v 3) .nil))) body2) .nil)
def P3 (d c r m w : Nat) (most : Int) (L n : Nat) (o : MO) (i : Nat) (σ : S) (M' : Mem) : Prop := ∃ (ws : List (Int × Int × Int)) (a b u : Option D), σ = slW d m w most (n : Int) a b u none none ∧ WOk n ws i (i + 1) ∧ ws.length ≤ 10 * i ∧ Dice d c r M' ∧ M'[w]? = some (.lst (ws.map encW)) ∧ M'[m]? = some o ∧ L ≤ M'.length
theorem web_step3 (k : Nat) {m w n L : Nat} {most : Int} {o : MO} {R : List D} (gR : ∀ (i : Nat) (x : D), R[i]? = some x → i < n ∧ x = .int (i : Nat)) (hn : n ≤ 10) (m1 : m ≠ d) (m3 : m ≠ r) (w1 : w ≠ d) (w2 : w ≠ c) (w3 : w ≠ r) (mw : m ≠ w) (i : Nat) (x : D) (σ : S) (M' : Mem) (hx : R[i]? = some x) (p : P3 d c r m w most L n o i σ M') :
    ∃ σ1 σ2 M2, bindT (.n 8) x σ = some σ1 ∧ (xss (g (k + 2)) body3 σ1 M' = .nx σ2 M2 ∨ xss (g (k + 2)) body3 σ1 M' = .ct σ2 M2) ∧ P3 d c r m w most L n o (i + 1) σ2 M2 := by
  obtain ⟨ws, a, b, u, rfl, hw, hl, D1, g1, g2, le⟩ := p
  obtain ⟨hi, rfl⟩ := gR i x hx
  obtain ⟨R2, h1, h2, h3⟩ := rng_has2 (m := i + 1) (n := n) (by omega) (by omega)
  have v8 : ev (g (k + 2)) (.v 8) (slW d m w most (n : Int) a b (some (.int (i : Nat))) none none) M' = .ok (.int (i : Nat)) M' := ev_v rfl
  have v3 : ev (g (k + 2)) (.v 3) (slW d m w most (n : Int) a b (some (.int (i : Nat))) none none) M' = .ok (.int (n : Nat)) M' := ev_v rfl
  have hevs : evs (g (k + 2)) (.cons (.bin .add (.v 8) (.c (.int (1)))) (.cons (.v 3) .nil)) (slW d m w most (n : Int) a b (some (.int (i : Nat))) none none) M' = .ok [.int ((i + 1 : Nat) : Int), .int (n : Nat)] M' := by
    rw [evs_cons, ev_bin, v8, Res.bind_ok, ev_c, Res.bind_ok, add_int, Res.bind_ok, evs_cons, v3, Res.bind_ok, evs_nil, Res.bind_ok, Res.bind_ok]
    rfl
  have hev := evi_rngs hevs h1
  have p0 : P2 d c r m w most (n : Int) L n i o b 0 (slW d m w most (n : Int) a b (some (.int (i : Nat))) none none) M' := ⟨ws, a, rfl, hw, hl, D1, g1, g2, le⟩
  obtain ⟨σ', M2, e1, q⟩ := fr_one (g := bindT (.n 6)) (b := xss (g (k + 2)) body2) (l := R2) (P2 d c r m w most (n : Int) L n i o b) p0 (web_step2 k h3 hn m1 m3 w1 w2 w3 mw)
  have hx2 : xs (g (k + 2)) (.fr (.n 6) (.rng (.cons (.bin .add (.v 8) (.c (.int (1)))) (.cons (.v 3) .nil))) body2) (slW d m w most (n : Int) a b (some (.int (i : Nat))) none none) M' = .nx σ' M2 := xs_fr hev now_one e1
  rw [h2] at q
  obtain ⟨ws2, a2, rfl, hw2, hl2, D2, k1, k2, le2⟩ := q
  have fin : xss (g (k + 2)) body3 (slW d m w most (n : Int) a b (some (.int (i : Nat))) none none) M' = .nx (slW d m w most (n : Int) a2 b (some (.int (i : Nat))) none none) M2 := by
    simp only [body3, xss]
    rw [hx2, seq_nx]
  exact ⟨slW d m w most (n : Int) a b (some (.int (i : Nat))) none none, slW d m w most (n : Int) a2 b (some (.int (i : Nat))) none none, M2, rfl, .inl fin, ws2, a2, b, some (.int (i : Nat)), rfl, hw2.next, by omega, D2, k1, k2, le2⟩
end Mp.K07

set_option Elab.async false
set_option linter.all false
set_option maxRecDepth 100000
set_option maxHeartbeats 4000000
set_option autoImplicit false
namespace Mp.K07
open PySem PySem.Spec L2
variable {d c r : Nat} {M : Mem}
def PI (d c r m w f : Nat) (om ow : MO) (i : Nat) (acc : List D) (M' : Mem) : Prop := ∃ l : List Int, acc = l.map .int ∧ (∀ x ∈ l, 0 ≤ x ∧ x < (i : Int)) ∧ l.Pairwise (· < ·) ∧ l.length ≤ i ∧ i ≤ 10 ∧ Dice d c r M' ∧ M'[f]? = some (.lst acc) ∧ M'[m]? = some om ∧ M'[w]? = some ow
theorem inputs_drawn (k : Nat) {m w n : Nat} {most : Int} {om ow : MO} (hn : n ≤ 10) (D0 : Dice d c r M) (hm : M[m]? = some om) (hw : M[w]? = some ow) (m1 : m ≠ d) (m3 : m ≠ r) (w1 : w ≠ d) (w3 : w ≠ r) (a b u : Option D) :
    ∃ acc M', ev (g (k + 2)) (.lc [10, 6] (.n 6) (.rng (.cons (.v 3) .nil)) (.cons (.cmp .gt (.bin .mod (.call "_law_next" (.cons (.v 0) .nil) [] .nil) (.c (.int (3)))) (.c (.int (0)))) .nil) (.v 6)) (slW d m w most (n : Int) a b u none none) M = .ok (.ref M.length) M' ∧ PI d c r m w M.length om ow n acc M' := by
  obtain ⟨l1, l2, l3⟩ := D0.lt
  have lm := (List.getElem?_eq_some_iff.mp hm).1
  have lw := (List.getElem?_eq_some_iff.mp hw).1
  obtain ⟨R, hR, lR, gR⟩ := rng_has (n := n) (by omega)
  have v3 : ev (g (k + 2)) (.v 3) (slW d m w most (n : Int) a b u none none) M = .ok (.int (n : Nat)) M := ev_v rfl
  have hevs : evs (g (k + 2)) (.cons (.v 3) .nil) (slW d m w most (n : Int) a b u none none) M = .ok [.int (n : Nat)] M := by
    rw [evs_cons, v3, Res.bind_ok, evs_nil, Res.bind_ok]
  have hev := evi_rngs hevs hR
  have p0 : PI d c r m w M.length om ow 0 [] (M ++ [.lst []]) := ⟨[], rfl, fun x h => absurd h List.not_mem_nil, List.Pairwise.nil, Nat.le_refl _, Nat.zero_le _, D0.app, last_get _ _, get_app hm, get_app hw⟩
  have hr : ∀ j acc M', PI d c r m w M.length om ow j acc M' → M'[M.length]? = some (.lst acc) ∧ acc.length ≤ 1000 := by
    rintro j acc M' ⟨l, rfl, _, _, h1, h2, _, h3, _⟩
    exact ⟨h3, by rw [List.length_map]; omega⟩
  have st : ∀ (j : Nat) (x : D) acc M', R[j]? = some x → PI d c r m w M.length om ow j acc M' → ∃ s, bindT (.n 6) x (wipeS (slW d m w most (n : Int) a b u none none) [10, 6]) = some s ∧ ∃ b' M3, evc (g (k + 2)) (.cons (.cmp .gt (.bin .mod (.call "_law_next" (.cons (.v 0) .nil) [] .nil) (.c (.int (3)))) (.c (.int (0)))) .nil) s M' = .ok b' M3 ∧ ((b' = false ∧ PI d c r m w M.length om ow (j + 1) acc M3) ∨ (b' = true ∧ ∃ y M4, ev (g (k + 2)) (.v 6) s M3 = .ok y M4 ∧ M4[M.length]? = some (.lst acc) ∧ PI d c r m w M.length om ow (j + 1) (acc ++ [y]) (M4.set M.length (.lst (acc ++ [y]))))) := by
    rintro j x acc M' hx ⟨l, rfl, hb, hp, hl, hj, D1, g1, h1, h2⟩
    obtain ⟨hi, rfl⟩ := gR j x hx
    obtain ⟨y, M4, q1, _, _, D2, f2⟩ := next_ok k D1
    have g4 := f2.keep g1 (by omega) (by omega)
    have i4 := f2.keep h1 m1 m3
    have j4 := f2.keep h2 w1 w3
    refine ⟨slW d m w most (n : Int) (some (.int (j : Nat))) b u none none, rfl, decide (0 < y % 3), M4, evc_one ?_, ?_⟩
    · have v0 : ev (g (k + 2)) (.v 0) (slW d m w most (n : Int) (some (.int (j : Nat))) b u none none) M' = .ok (.ref d) M' := ev_v rfl
      have e1 : evs (g (k + 2)) (.cons (.v 0) .nil) (slW d m w most (n : Int) (some (.int (j : Nat))) b u none none) M' = .ok [.ref d] M' := by
        rw [evs_cons, v0, Res.bind_ok, evs_nil, Res.bind_ok]
      have e2 : ev (g (k + 2)) (.call "_law_next" (.cons (.v 0) .nil) [] .nil) (slW d m w most (n : Int) (some (.int (j : Nat))) b u none none) M' = .ok (.int y) M4 := by
        rw [ev_call (k__law_next _), e1, Res.bind_ok, evs_nil, Res.bind_ok]
        exact q1
      rw [ev_cmp, ev_bin, e2, Res.bind_ok, ev_c, Res.bind_ok, mod_int M4 y 3 (by decide), Res.bind_ok, ev_c, Res.bind_ok, cop_gt]
      rfl
    · by_cases hy : 0 < y % 3
      · right
        have v6 : ev (g (k + 2)) (.v 6) (slW d m w most (n : Int) (some (.int (j : Nat))) b u none none) M4 = .ok (.int (j : Nat)) M4 := ev_v rfl
        refine ⟨decide_eq_true hy, .int (j : Nat), M4, v6, g4, l ++ [(j : Int)], by rw [List.map_append]; rfl, fun x hx => ?_, ?_, by rw [List.length_append, List.length_singleton]; omega, by omega, D2.set (by omega) (by omega) (by omega), set_self g4, by rw [List.getElem?_set_ne (by omega), i4], by rw [List.getElem?_set_ne (by omega), j4]⟩
        · rcases List.mem_append.mp hx with hx | hx
          · have := hb x hx; omega
          · rw [List.mem_singleton.mp hx]; omega
        · rw [List.pairwise_append]
          refine ⟨hp, List.pairwise_singleton _ _, fun x hx y' hy' => ?_⟩
          rw [List.mem_singleton.mp hy']
          exact (hb x hx).2
      · left
        exact ⟨decide_eq_false hy, l, rfl, fun x hx => by have := hb x hx; omega, hp, by omega, by omega, D2, g4, i4, j4⟩
  obtain ⟨acc, M', e, p⟩ := lc_draw (PI d c r m w M.length om ow) hev (fun _ => now_one) (by omega) p0 hr st
  rw [lR] at p
  exact ⟨acc, M', e, p⟩
end Mp.K07

set_option Elab.async false
set_option linter.all false
set_option maxRecDepth 100000
set_option maxHeartbeats 4000000
set_option autoImplicit false
namespace Mp.K07
open PySem PySem.Spec L2
variable {d c r : Nat} {M : Mem}
def stA : Sm := .set (.t (.t [3, 4, 5])) (.tup (.cons (.bin .add (.c (.int (1))) (.bin .mod (.call "_law_next" (.cons (.v 0) .nil) [] .nil) (.v 1))) (.cons (.lst .nil) (.cons (.lst .nil) .nil))))
def exI : Ir := (.lc [10, 6] (.n 6) (.rng (.cons (.v 3) .nil)) (.cons (.cmp .gt (.bin .mod (.call "_law_next" (.cons (.v 0) .nil) [] .nil) (.c (.int (3)))) (.c (.int (0)))) .nil) (.v 6))
def stR : Sm := .ret (.tup (.cons (.blt .tuple (.cons (.v 4) .nil)) (.cons (.blt .tuple (.cons (.v 5) .nil)) (.cons (.blt .tuple (.cons (.v 9) .nil)) .nil))))
theorem web_text : b__law_web = .cons stA (.cons (.fr (.n 6) (.rng (.cons (.v 3) .nil)) body1) (.cons (.fr (.n 8) (.rng (.cons (.v 3) .nil)) body3) (.cons (.set (.t (.n 9)) exI) (.cons stR .nil)))) := rfl
theorem web_ok (k : Nat) (D0 : Dice d c r M) {most : Int} (h1 : 1 ≤ most) (h2 : most ≤ 10) : ∃ ms ws is M', C (k + 3) "_law_web" [.ref d, .int most, .int 1000] M = .ok (web ms ws is) M' ∧ Valid ms ws is ∧ ws.length ≤ 100 ∧ is.length ≤ 10 ∧ Dice d c r M' := by
  rw [C, call_of f__law_web]
  obtain ⟨y, M1, q1, _, _, D1, _⟩ := next_ok k D0
  have b1 := Int.emod_nonneg y (by omega : most ≠ 0)
  have b2 := Int.emod_lt_of_pos y (by omega : 0 < most)
  obtain ⟨n, hn⟩ := Int.eq_ofNat_of_zero_le (show 0 ≤ 1 + y % most by omega)
  have n1 : 1 ≤ n := by omega
  have n2 : n ≤ 10 := by omega
  obtain ⟨l1, l2, l3⟩ := D1.lt
  have sA : xs (g (k + 2)) stA [some (.ref d), some (.int most), some (.int 1000), none, none, none, none, none, none, none, none] M = .nx (slW d M1.length (M1.length + 1) most (n : Int) none none none none none) (M1 ++ [.lst []] ++ [.lst []]) := by
    have v0 : ev (g (k + 2)) (.v 0) [some (.ref d), some (.int most), some (.int 1000), none, none, none, none, none, none, none, none] M = .ok (.ref d) M := ev_v rfl
    have e1 : evs (g (k + 2)) (.cons (.v 0) .nil) [some (.ref d), some (.int most), some (.int 1000), none, none, none, none, none, none, none, none] M = .ok [.ref d] M := by
      rw [evs_cons, v0, Res.bind_ok, evs_nil, Res.bind_ok]
    have e2 : ev (g (k + 2)) (.call "_law_next" (.cons (.v 0) .nil) [] .nil) [some (.ref d), some (.int most), some (.int 1000), none, none, none, none, none, none, none, none] M = .ok (.int y) M1 := by
      rw [ev_call (k__law_next _), e1, Res.bind_ok, evs_nil, Res.bind_ok]
      exact q1
    have v1 : ev (g (k + 2)) (.v 1) [some (.ref d), some (.int most), some (.int 1000), none, none, none, none, none, none, none, none] M1 = .ok (.int most) M1 := ev_v rfl
    have e3 : ∀ (σ : S) (M : Mem), ev (g (k + 2)) (.lst .nil) σ M = .ok (.ref M.length) (M ++ [.lst []]) := fun σ M => by
      rw [ev_lst, evs_nil, Res.bind_ok, if_pos (by decide)]
    have e4 : (M1 ++ [MO.lst []]).length = M1.length + 1 := by simp
    unfold stA
    rw [xs_set, ev_tup, evs_cons, ev_bin, ev_c, Res.bind_ok, ev_bin, e2, Res.bind_ok, v1, Res.bind_ok, mod_int _ _ _ (by omega), Res.bind_ok, add_int, Res.bind_ok, evs_cons, e3, Res.bind_ok, evs_cons, e3, Res.bind_ok, evs_nil, Res.bind_ok, Res.bind_ok, Res.bind_ok, Res.bind_ok, if_pos (by simp), Res.fl_ok, hn, e4]
    rfl
  obtain ⟨R, hR, lR, gR⟩ := rng_has (n := n) (by omega)
  have rng : ∀ (a b u s z : Option D) (M : Mem), evi (g (k + 2)) (.rng (.cons (.v 3) .nil)) (slW d M1.length (M1.length + 1) most (n : Int) a b u s z) M = .ok (.one (.snap R)) M := fun a b u s z M => by
    have v3 : ev (g (k + 2)) (.v 3) (slW d M1.length (M1.length + 1) most (n : Int) a b u s z) M = .ok (.int (n : Nat)) M := ev_v rfl
    exact evi_rngs (by rw [evs_cons, v3, Res.bind_ok, evs_nil, Res.bind_ok]) hR
  have g0 : (M1 ++ [MO.lst []] ++ [MO.lst []])[M1.length]? = some (.lst (([] : List Int).map .int)) := get_app (last_get _ _)
  have g1 : (M1 ++ [MO.lst []] ++ [MO.lst []])[M1.length + 1]? = some (.lst []) := by
    have := last_get (M1 ++ [MO.lst []]) (.lst [])
    rwa [List.length_append, List.length_singleton] at this
  have p1 : P1 d c r M1.length (M1.length + 1) most (n : Int) 0 0 (slW d M1.length (M1.length + 1) most (n : Int) none none none none none) (M1 ++ [.lst []] ++ [.lst []]) := ⟨[], none, none, rfl, rfl, fun x h => absurd h List.not_mem_nil, D1.app.app, g0, g1, Nat.zero_le _⟩
  obtain ⟨σ2, M2, e2, q2⟩ := fr_one (g := bindT (.n 6)) (b := xss (g (k + 2)) body1) (l := R) (P1 d c r M1.length (M1.length + 1) most (n : Int) 0) p1 (web_step1 k gR n2 (by omega) (by omega) (by omega) (by omega) (by omega) (by omega))
  have x2 := xs_fr (b := body1) (rng none none none none none _) now_one e2
  rw [lR] at q2
  obtain ⟨ms, a2, c2, rfl, lm, hm, D2, gm, gw, _⟩ := q2
  have p3 : P3 d c r M1.length (M1.length + 1) most 0 n (.lst (ms.map .int)) 0 (slW d M1.length (M1.length + 1) most (n : Int) a2 c2 none none none) M2 := ⟨[], a2, c2, none, rfl, ⟨fun x h => absurd h List.not_mem_nil, fun x h => absurd h List.not_mem_nil, List.Pairwise.nil⟩, Nat.zero_le _, D2, gw, gm, Nat.zero_le _⟩
  obtain ⟨σ3, M3, e3, q3⟩ := fr_one (g := bindT (.n 8)) (b := xss (g (k + 2)) body3) (l := R) (P3 d c r M1.length (M1.length + 1) most 0 n (.lst (ms.map .int))) p3 (web_step3 k gR n2 (by omega) (by omega) (by omega) (by omega) (by omega) (by omega))
  have x3 := xs_fr (b := body3) (rng a2 c2 none none none _) now_one e3
  rw [lR] at q3
  obtain ⟨ws, a3, c3, u3, rfl, wo, lw, D3, kw, km, _⟩ := q3
  obtain ⟨acc, M4, e4, is, rfl, hi, hp, li, _, D4, k4, km4, kw4⟩ := inputs_drawn k (most := most) n2 D3 km kw (by omega) (by omega) (by omega) (by omega) a3 c3 u3
  refine ⟨ms, ws, is, M4, ?_, ⟨by omega, by omega, hm, fun x hx => by have := wo.ok x hx; omega, wo.srt, fun x hx => by have := hi x hx; omega, hp⟩, by omega, by omega, D4⟩
  have s4 : xs (g (k + 2)) (.set (.t (.n 9)) exI) (slW d M1.length (M1.length + 1) most (n : Int) a3 c3 u3 none none) M3 = .nx (slW d M1.length (M1.length + 1) most (n : Int) a3 c3 u3 (some (.ref M3.length)) none) M4 := by
    unfold exI
    rw [xs_set, e4]
    rfl
  have s5 : xs (g (k + 2)) stR (slW d M1.length (M1.length + 1) most (n : Int) a3 c3 u3 (some (.ref M3.length)) none) M4 = .rt (web ms ws is) M4 := by
    have w4 : ev (g (k + 2)) (.v 4) (slW d M1.length (M1.length + 1) most (n : Int) a3 c3 u3 (some (.ref M3.length)) none) M4 = .ok (.ref M1.length) M4 := ev_v rfl
    have w5 : ev (g (k + 2)) (.v 5) (slW d M1.length (M1.length + 1) most (n : Int) a3 c3 u3 (some (.ref M3.length)) none) M4 = .ok (.ref (M1.length + 1)) M4 := ev_v rfl
    have w9 : ev (g (k + 2)) (.v 9) (slW d M1.length (M1.length + 1) most (n : Int) a3 c3 u3 (some (.ref M3.length)) none) M4 = .ok (.ref M3.length) M4 := ev_v rfl
    unfold stR
    rw [xs_ret, ev_tup, evs_cons, ev_blt, evs_cons, w4, Res.bind_ok, evs_nil, Res.bind_ok, Res.bind_ok, tup_lst km4, Res.bind_ok, evs_cons, ev_blt, evs_cons, w5, Res.bind_ok, evs_nil, Res.bind_ok, Res.bind_ok, tup_lst kw4, Res.bind_ok, evs_cons, ev_blt, evs_cons, w9, Res.bind_ok, evs_nil, Res.bind_ok, Res.bind_ok, tup_lst k4, Res.bind_ok, evs_nil, Res.bind_ok, Res.bind_ok, Res.bind_ok, Res.bind_ok, if_pos (by simp)]
    rfl
  show ran (xss (g (k + 2)) b__law_web [some (.ref d), some (.int most), some (.int 1000), none, none, none, none, none, none, none, none] M) = _
  rw [web_text]
  simp only [xss]
  rw [sA, seq_nx, x2, seq_nx, x3, seq_nx, s4, seq_nx, s5, seq_rt, ran_rt]
end Mp.K07

set_option Elab.async false
set_option linter.all false
set_option maxRecDepth 100000
set_option maxHeartbeats 4000000
set_option autoImplicit false
namespace Mp.K07
open PySem PySem.Spec L2
variable {d c r : Nat} {M : Mem} {ms : List Int} {ws : List (Int × Int × Int)} {is now : List Int}
/-- no ticks: nothing moves -/
abbrev Z (ms : List Int) : List Int := List.replicate ms.length 0
theorem nth_Z (i : Nat) : nth (Z ms) i = 0 := by
  unfold nth
  rw [List.getD_eq_getElem?_getD, List.getElem?_replicate]
  split <;> rfl
theorem arr_Z (n : Now ms now) : ∀ ws : List (Int × Int × Int), (∀ w ∈ ws, 0 ≤ w.1 ∧ w.1 < w.2.1 ∧ w.2.1 < ms.length) → arr ms now ws (Z ms) = Z ms
  | [], _ => rfl
  | w :: ws, h => by
    have q := h w List.mem_cons_self
    have hu : w.1.toNat < ms.length := by omega
    have nn := n.ok w.1.toNat _ _ (at_nth hu) (at_nth (by rw [n.len]; exact hu))
    have e : stepW ms now (Z ms) w = Z ms := by
      unfold stepW
      rw [nth_Z, nth_Z, Int.add_zero, Int.ediv_eq_zero_of_lt nn.1 nn.2, Int.mul_zero, Int.add_zero]
      refine List.ext_getElem? fun j => ?_
      by_cases hj : w.2.1.toNat = j
      · subst hj
        rw [List.getElem?_set_self (by rw [List.length_replicate]; omega), List.getElem?_replicate, if_pos (by omega)]
      · rw [List.getElem?_set_ne hj]
    show arr ms now ws (stepW ms now (Z ms) w) = _
    rw [e]
    exact arr_Z n ws fun x hx => h x (List.mem_cons_of_mem _ hx)
theorem ext_nth {a b : List Int} (hl : a.length = b.length) (h : ∀ i, i < a.length → nth a i = nth b i) : a = b := by
  refine List.ext_getElem? fun i => ?_
  by_cases hi : i < a.length
  · rw [at_nth hi, at_nth (by omega), h i hi]
  · rw [List.getElem?_eq_none (by omega), List.getElem?_eq_none (by omega)]
theorem rest (v : Valid ms ws is) (n : Now ms now) : A3 ms ws now (Z ms) = Z ms ∧ Q3 ms ws now (Z ms) = Z ms ∧ R3 ms ws now (Z ms) = now := by
  have lz : (Z ms).length = ms.length := List.length_replicate
  have hA : A3 ms ws now (Z ms) = Z ms := arr_Z n ws fun w hw => by have := v.w w hw; omega
  obtain ⟨la, lq, lr⟩ := lens (ws := ws) n lz
  refine ⟨hA, ext_nth (by rw [lq, lz]) fun i hi => ?_, ext_nth (by rw [lr, n.len]) fun i hi => ?_⟩
  · have hi' : i < ms.length := by omega
    have nn := n.ok i _ _ (at_nth hi') (at_nth (by rw [n.len]; exact hi'))
    rw [(car_nth (ws := ws) n lz hi').1, hA, nth_Z]
    unfold car
    rw [nth_Z, Int.add_zero, Int.ediv_eq_zero_of_lt nn.1 nn.2]
  · have hi' : i < ms.length := by omega
    have nn := n.ok i _ _ (at_nth hi') (at_nth (by rw [n.len]; exact hi'))
    rw [(car_nth (ws := ws) n lz hi').2, hA, nth_Z, Int.add_zero, Int.emod_eq_of_lt nn.1 nn.2]
theorem push_Z : Push ms is (Z ms) := ⟨List.length_replicate, fun i x h => by
  rw [List.getElem?_replicate] at h
  split at h
  · cases h; exact ⟨by decide, by decide, fun q => absurd rfl q⟩
  · cases h⟩
theorem eq_three {M : Mem} {a b : Nat} {x y z : List Int} (h1 : M[a]? = some (.lst [tI x, tI y, tI z])) (h2 : M[b]? = some (.lst [tI x, tI y, tI z])) : eqD M (.ref a) (.ref b) = some true := by
  have q : ∀ n, M[n]? = some (.lst [tI x, tI y, tI z]) → rd 40 M (.ref n) = some (.list [tP x, tP y, tP z]) := fun n h => by
    show (match listAt M n with | some l => (mapO (rd 39 M) l).map PyData.list | none => none) = _
    rw [listAt_of h]
    have e1 := rd_tup 37 M x
    have e2 := rd_tup 37 M y
    have e3 := rd_tup 37 M z
    simp only [mapO, tI, e1, e2, e3]
    rfl
  have e : eqD M (.ref a) (.ref b) = match rd 40 M (.ref a), rd 40 M (.ref b) with
    | some x, some y => if SeqAt.shaped x && SeqAt.shaped y then some (PyData.eqv x y) else none
    | _, _ => none := rfl
  have sh : SeqAt.shaped (.list [tP x, tP y, tP z]) = true := by
    unfold SeqAt.shaped
    have c1 : (PyData.list [tP x, tP y, tP z]).canLay0 = true := by
      simp only [PyData.canLay0, PyData.canLayAll0, canLay_ints, Bool.and_self]
    have c2 : (PyData.list [tP x, tP y, tP z]).depth ≤ 64 := by
      simp only [PyData.depth, PyData.depthAll, depth_ints]
      decide
    rw [c1, decide_eq_true c2]; rfl
  rw [e, q a h1, q b h2]
  simp only [sh, Bool.and_self, if_true]
  simp only [PyData.eqv, PyData.eqvAll, eqvAll_refl_ints, Bool.and_self]
end Mp.K07

set_option Elab.async false
set_option linter.all false
set_option maxRecDepth 100000
set_option maxHeartbeats 4000000
set_option autoImplicit false
namespace Mp.K07
open PySem PySem.Spec L2
variable {d c r : Nat} {M : Mem} {ms : List Int} {ws : List (Int × Int × Int)} {is now : List Int}
def exP : Ir := .call "_law_pushes" (.cons (.v 1) (.cons (.v 3) .nil)) [] .nil
def bodyI : Sms := (.cons (.iff (.nt (.call "_law_right" (.cons (.v 3) (.cons (.v 4) (.cons exP .nil))) [] .nil)) (.cons (.ret (.c (.bl false))) .nil) .nil) .nil)
abbrev slL (d : Nat) (W D2 : D) (s t z x : Option D) : S := [s, some (.ref d), t, some W, some D2, z, x]
theorem call_ok {k : Nat} {f : Str} {l : Irs} {ds : List D} {σ : S} {M M1 : Mem} (hk : (g k).known f = true) (h : evs (g k) l σ M = .ok ds M1) : ev (g k) (.call f l [] .nil) σ M = callF glob L0 fns k f ds [] M1 := by
  rw [ev_call hk, h, Res.bind_ok, evs_nil, Res.bind_ok]
  rfl
theorem inner_turn (k : Nat) (v : Valid ms ws is) (n : Now ms now) (wl : ws.length ≤ 100) (il : is.length ≤ 10) (D0 : Dice d c r M) (s t z x : Option D) : ∃ M2, xss (g (k + 13)) bodyI (slL d (web ms ws is) (tI now) s t z x) M = .nx (slL d (web ms ws is) (tI now) s t z x) M2 ∧ Dice d c r M2 := by
  obtain ⟨p, M1, q1, hp, D1⟩ := pushes_ok v (k + 10) D0
  rw [show k + 10 + 3 = k + 13 from rfl] at q1
  obtain ⟨N, q2⟩ := right_ok ⟨v, n, hp, wl, il⟩ k M1
  have v1 : ∀ M, ev (g (k + 13)) (.v 1) (slL d (web ms ws is) (tI now) s t z x) M = .ok (.ref d) M := fun M => ev_v rfl
  have v3 : ∀ M, ev (g (k + 13)) (.v 3) (slL d (web ms ws is) (tI now) s t z x) M = .ok (web ms ws is) M := fun M => ev_v rfl
  have v4 : ∀ M, ev (g (k + 13)) (.v 4) (slL d (web ms ws is) (tI now) s t z x) M = .ok (tI now) M := fun M => ev_v rfl
  have e1 : ev (g (k + 13)) exP (slL d (web ms ws is) (tI now) s t z x) M = .ok (tI p) M1 := by
    have h : evs (g (k + 13)) (.cons (.v 1) (.cons (.v 3) .nil)) (slL d (web ms ws is) (tI now) s t z x) M = .ok [.ref d, web ms ws is] M := by
      rw [evs_cons, v1, Res.bind_ok, evs_cons, v3, Res.bind_ok, evs_nil, Res.bind_ok, Res.bind_ok]
    exact (call_ok (k__law_pushes _) h).trans q1
  have e2 : ev (g (k + 13)) (.call "_law_right" (.cons (.v 3) (.cons (.v 4) (.cons exP .nil))) [] .nil) (slL d (web ms ws is) (tI now) s t z x) M = .ok (.bl true) (M1 ++ N) := by
    have h : evs (g (k + 13)) (.cons (.v 3) (.cons (.v 4) (.cons exP .nil))) (slL d (web ms ws is) (tI now) s t z x) M = .ok [web ms ws is, tI now, tI p] M1 := by
      rw [evs_cons, v3, Res.bind_ok, evs_cons, v4, Res.bind_ok, evs_cons, e1, Res.bind_ok, evs_nil, Res.bind_ok, Res.bind_ok, Res.bind_ok]
    exact (call_ok (k__law_right _) h).trans q2
  refine ⟨M1 ++ N, ?_, D1.app⟩
  have e3 : tst (g (k + 13)) (.nt (.call "_law_right" (.cons (.v 3) (.cons (.v 4) (.cons exP .nil))) [] .nil)) (slL d (web ms ws is) (tI now) s t z x) M = .ok false (M1 ++ N) := by
    unfold tst
    rw [ev_nt, e2, Res.bind_ok]
    rfl
  unfold bodyI
  simp only [xss]
  rw [xs_iff, e3]
  rfl
def stN : Sm := .set (.t (.t [4, 5])) (.tup (.cons (.call "_law_now" (.cons (.v 1) (.cons (.v 3) .nil)) [] .nil) (.cons (.bin .mul (.tup (.cons (.c (.int (0))) .nil)) (.blt .len (.cons (.idx (.v 3) (.c (.int (0)))) .nil))) .nil)))
def stW : Sm := .set (.t (.n 3)) (.call "_law_web" (.cons (.v 1) (.cons (.ite (.cmp .eq (.v 2) (.c (.int (1)))) (.c (.int (10))) (.c (.int (5)))) (.cons (.c (.int (1000))) .nil))) [] .nil)
def stE : Sm := .iff (.cmp .ne (.lst (.cons (.call "arrivals" (.cons (.v 3) (.cons (.v 4) (.cons (.v 5) .nil))) [] .nil) (.cons (.call "carries" (.cons (.v 3) (.cons (.v 4) (.cons (.v 5) .nil))) [] .nil) (.cons (.call "after" (.cons (.v 3) (.cons (.v 4) (.cons (.v 5) .nil))) [] .nil) .nil)))) (.lst (.cons (.v 5) (.cons (.v 5) (.cons (.v 4) .nil))))) (.cons (.ret (.c (.bl false))) .nil) .nil
def bodyT : Sms := .cons stW (.cons stN (.cons (.fr (.n 6) (.rng (.cons (.c (.int (3))) .nil)) bodyI) (.cons stE .nil)))
theorem law_text : b_law = .cons (.set (.t (.n 1)) (.call "_law_state" (.cons (.v 0) .nil) [] .nil)) (.cons (.fr (.n 2) (.rng (.cons (.bin .add (.c (.int (3))) (.bin .fdiv (.blt .len (.cons (.slc (.v 0) .non (.som (.c (.int (63))))) .nil)) (.c (.int (6))))) .nil)) bodyT) (.cons (.ret (.c (.bl true))) .nil)) := rfl
end Mp.K07

set_option Elab.async false
set_option linter.all false
set_option maxRecDepth 100000
set_option maxHeartbeats 4000000
set_option autoImplicit false
namespace Mp.K07
open PySem PySem.Spec L2
variable {d c r : Nat} {M : Mem} {ms : List Int} {ws : List (Int × Int × Int)} {is now : List Int}
theorem web_stmt (k : Nat) (D0 : Dice d c r M) (i : Nat) (s x3 x4 x5 x6 : Option D) : ∃ ms ws is M', xs (g (k + 3)) stW [s, some (.ref d), some (.int (i : Nat)), x3, x4, x5, x6] M = .nx [s, some (.ref d), some (.int (i : Nat)), some (web ms ws is), x4, x5, x6] M' ∧ Valid ms ws is ∧ ws.length ≤ 100 ∧ is.length ≤ 10 ∧ Dice d c r M' := by
  obtain ⟨most, h1, h2, hm⟩ : ∃ most : Int, 1 ≤ most ∧ most ≤ 10 ∧ ev (g (k + 3)) (.ite (.cmp .eq (.v 2) (.c (.int (1)))) (.c (.int (10))) (.c (.int (5)))) [s, some (.ref d), some (.int (i : Nat)), x3, x4, x5, x6] M = .ok (.int most) M := by
    have v2 : ev (g (k + 3)) (.v 2) [s, some (.ref d), some (.int (i : Nat)), x3, x4, x5, x6] M = .ok (.int (i : Nat)) M := ev_v rfl
    by_cases h : (i : Int) = 1
    · exact ⟨10, by decide, by decide, by rw [ev_ite, ev_cmp, v2, Res.bind_ok, ev_c, Res.bind_ok, cop_eq, eqD_int, beq_iff_eq.mpr h]; simp [ev_c]⟩
    · exact ⟨5, by decide, by decide, by rw [ev_ite, ev_cmp, v2, Res.bind_ok, ev_c, Res.bind_ok, cop_eq, eqD_int, beq_eq_false_iff_ne.mpr h]; simp [ev_c]⟩
  obtain ⟨ms, ws, is, M', q, v, wl, il, D1⟩ := web_ok k D0 h1 h2
  have v1 : ev (g (k + 3)) (.v 1) [s, some (.ref d), some (.int (i : Nat)), x3, x4, x5, x6] M = .ok (.ref d) M := ev_v rfl
  have h : evs (g (k + 3)) (.cons (.v 1) (.cons (.ite (.cmp .eq (.v 2) (.c (.int (1)))) (.c (.int (10))) (.c (.int (5)))) (.cons (.c (.int (1000))) .nil))) [s, some (.ref d), some (.int (i : Nat)), x3, x4, x5, x6] M = .ok [.ref d, .int most, .int 1000] M := by
    rw [evs_cons, v1, Res.bind_ok, evs_cons, hm, Res.bind_ok, evs_cons, ev_c, Res.bind_ok, evs_nil, Res.bind_ok, Res.bind_ok, Res.bind_ok]
  refine ⟨ms, ws, is, M', ?_, v, wl, il, D1⟩
  unfold stW
  rw [xs_set, (call_ok (k__law_web _) h).trans q]
  rfl
end Mp.K07

set_option Elab.async false
set_option linter.all false
set_option maxRecDepth 100000
set_option maxHeartbeats 4000000
set_option autoImplicit false
namespace Mp.K07
open PySem PySem.Spec L2
variable {d c r : Nat} {M : Mem} {ms : List Int} {ws : List (Int × Int × Int)} {is now : List Int}
theorem zeros_mul (n : Nat) (h1 : 1 ≤ n) (h2 : n ≤ 1000) (M : Mem) : bop .mul (.tup [.int 0]) (.int (n : Nat)) M = .ok (.tup ((List.replicate n (0 : Int)).map .int)) M := by
  have e : bop .mul (.tup [.int 0]) (.int (n : Nat)) M = if [D.int 0] ≠ [] ∧ 1 ≤ (n : Int) ∧ (n : Int) ≤ 1000 ∧ [D.int 0].length ≤ 1000 then .ok (.tup (List.replicate (n : Int).toNat [D.int 0]).flatten) M else .bad := rfl
  rw [e, if_pos ⟨by simp, by omega, by omega, by decide⟩, Int.toNat_natCast]
  congr 2
  clear h1 h2 e
  induction n with
  | zero => rfl
  | succ n ih => rw [List.replicate_succ, List.flatten_cons, ih, List.replicate_succ]; rfl
theorem now_stmt (k : Nat) (v : Valid ms ws is) (D0 : Dice d c r M) (s t x4 x5 x6 : Option D) : ∃ now M', xs (g (k + 3)) stN [s, some (.ref d), t, some (web ms ws is), x4, x5, x6] M = .nx (slL d (web ms ws is) (tI now) s t (some (tI (Z ms))) x6) M' ∧ Now ms now ∧ Dice d c r M' := by
  obtain ⟨now, M', q, n, D1⟩ := now_ok v k D0
  have v1 : ev (g (k + 3)) (.v 1) [s, some (.ref d), t, some (web ms ws is), x4, x5, x6] M = .ok (.ref d) M := ev_v rfl
  have v3 : ∀ M, ev (g (k + 3)) (.v 3) [s, some (.ref d), t, some (web ms ws is), x4, x5, x6] M = .ok (web ms ws is) M := fun M => ev_v rfl
  have h : evs (g (k + 3)) (.cons (.v 1) (.cons (.v 3) .nil)) [s, some (.ref d), t, some (web ms ws is), x4, x5, x6] M = .ok [.ref d, web ms ws is] M := by
    rw [evs_cons, v1, Res.bind_ok, evs_cons, v3, Res.bind_ok, evs_nil, Res.bind_ok, Res.bind_ok]
  have e0 : idxD (web ms ws is) (.int 0) M' = some (tI ms) := atD_nat [tI ms, .tup (ws.map encW), tI is] 0
  have e1 : ev (g (k + 3)) (.bin .mul (.tup (.cons (.c (.int (0))) .nil)) (.blt .len (.cons (.idx (.v 3) (.c (.int (0)))) .nil))) [s, some (.ref d), t, some (web ms ws is), x4, x5, x6] M' = .ok (tI (Z ms)) M' := by
    rw [ev_bin, ev_tup, evs_cons, ev_c, Res.bind_ok, evs_nil, Res.bind_ok, Res.bind_ok, if_pos (by simp), Res.bind_ok, ev_blt, evs_cons, ev_idx, v3, Res.bind_ok, ev_c, Res.bind_ok, e0, Res.ofO_some, Res.bind_ok, evs_nil, Res.bind_ok, Res.bind_ok, len_tup, Res.bind_ok, List.length_map]
    exact zeros_mul ms.length v.n1 (by have := v.n2; omega) M'
  refine ⟨now, M', ?_, n, D1⟩
  unfold stN
  rw [xs_set, ev_tup, evs_cons, (call_ok (k__law_now _) h).trans q, Res.bind_ok, evs_cons, e1, Res.bind_ok, evs_nil, Res.bind_ok, Res.bind_ok, Res.bind_ok, if_pos (by simp)]
  rfl
theorem last_stmt (k : Nat) (v : Valid ms ws is) (n : Now ms now) (D0 : Dice d c r M) (s t x6 : Option D) : ∃ M', xs (g (k + 10)) stE (slL d (web ms ws is) (tI now) s t (some (tI (Z ms))) x6) M = .nx (slL d (web ms ws is) (tI now) s t (some (tI (Z ms))) x6) M' ∧ Dice d c r M' := by
  obtain ⟨rA, rQ, rR⟩ := rest v n
  obtain ⟨N1, h1⟩ := arrivals_ok v n (push_Z (ms := ms) (is := is)) k M
  obtain ⟨N2, h2⟩ := carries_ok v n (push_Z (ms := ms) (is := is)) k (M ++ N1)
  obtain ⟨N3, h3⟩ := after_ok v n (push_Z (ms := ms) (is := is)) k (M ++ N1 ++ N2)
  rw [rA] at h1
  rw [rQ] at h2
  rw [rR] at h3
  have v3 : ∀ M, ev (g (k + 10)) (.v 3) (slL d (web ms ws is) (tI now) s t (some (tI (Z ms))) x6) M = .ok (web ms ws is) M := fun M => ev_v rfl
  have v4 : ∀ M, ev (g (k + 10)) (.v 4) (slL d (web ms ws is) (tI now) s t (some (tI (Z ms))) x6) M = .ok (tI now) M := fun M => ev_v rfl
  have v5 : ∀ M, ev (g (k + 10)) (.v 5) (slL d (web ms ws is) (tI now) s t (some (tI (Z ms))) x6) M = .ok (tI (Z ms)) M := fun M => ev_v rfl
  have h : ∀ M, evs (g (k + 10)) (.cons (.v 3) (.cons (.v 4) (.cons (.v 5) .nil))) (slL d (web ms ws is) (tI now) s t (some (tI (Z ms))) x6) M = .ok [web ms ws is, tI now, tI (Z ms)] M := fun M => by
    rw [evs_cons, v3, Res.bind_ok, evs_cons, v4, Res.bind_ok, evs_cons, v5, Res.bind_ok, evs_nil, Res.bind_ok, Res.bind_ok, Res.bind_ok]
  have c1 := (call_ok (k_arrivals _) (h M)).trans h1
  have c2 := (call_ok (k_carries _) (h (M ++ N1))).trans h2
  have c3 := (call_ok (k_after _) (h (M ++ N1 ++ N2))).trans h3
  generalize hM3 : M ++ N1 ++ N2 ++ N3 = M3 at *
  have D3 : Dice d c r M3 := by rw [← hM3]; exact D0.app.app.app
  have L1 : ev (g (k + 10)) (.lst (.cons (.call "arrivals" (.cons (.v 3) (.cons (.v 4) (.cons (.v 5) .nil))) [] .nil) (.cons (.call "carries" (.cons (.v 3) (.cons (.v 4) (.cons (.v 5) .nil))) [] .nil) (.cons (.call "after" (.cons (.v 3) (.cons (.v 4) (.cons (.v 5) .nil))) [] .nil) .nil)))) (slL d (web ms ws is) (tI now) s t (some (tI (Z ms))) x6) M = .ok (.ref M3.length) (M3 ++ [.lst [tI (Z ms), tI (Z ms), tI now]]) := by
    rw [ev_lst, evs_cons, c1, Res.bind_ok, evs_cons, c2, Res.bind_ok, evs_cons, c3, Res.bind_ok, evs_nil, Res.bind_ok, Res.bind_ok, Res.bind_ok, Res.bind_ok, if_pos (by simp)]
  have L2 : ev (g (k + 10)) (.lst (.cons (.v 5) (.cons (.v 5) (.cons (.v 4) .nil)))) (slL d (web ms ws is) (tI now) s t (some (tI (Z ms))) x6) (M3 ++ [.lst [tI (Z ms), tI (Z ms), tI now]]) = .ok (.ref (M3 ++ [MO.lst [tI (Z ms), tI (Z ms), tI now]]).length) (M3 ++ [.lst [tI (Z ms), tI (Z ms), tI now]] ++ [.lst [tI (Z ms), tI (Z ms), tI now]]) := by
    rw [ev_lst, evs_cons, v5, Res.bind_ok, evs_cons, v5, Res.bind_ok, evs_cons, v4, Res.bind_ok, evs_nil, Res.bind_ok, Res.bind_ok, Res.bind_ok, Res.bind_ok, if_pos (by simp)]
  have E := eq_three (M := M3 ++ [.lst [tI (Z ms), tI (Z ms), tI now]] ++ [.lst [tI (Z ms), tI (Z ms), tI now]]) (a := M3.length) (b := (M3 ++ [MO.lst [tI (Z ms), tI (Z ms), tI now]]).length) (get_app (last_get _ _)) (last_get _ _)
  refine ⟨M3 ++ [.lst [tI (Z ms), tI (Z ms), tI now]] ++ [.lst [tI (Z ms), tI (Z ms), tI now]], ?_, D3.app.app⟩
  unfold stE
  rw [xs_iff]
  unfold tst
  rw [ev_cmp, L1, Res.bind_ok, L2, Res.bind_ok, cop_ne, E]
  rfl
end Mp.K07

set_option Elab.async false
set_option linter.all false
set_option maxRecDepth 100000
set_option maxHeartbeats 4000000
set_option autoImplicit false
namespace Mp.K07
open PySem PySem.Spec L2
variable {d c r : Nat} {M : Mem}
theorem turn_ok (k : Nat) (D0 : Dice d c r M) (i : Nat) (s x3 x4 x5 x6 : Option D) : ∃ y3 y4 y5 y6 M2, xss (g (k + 13)) bodyT [s, some (.ref d), some (.int (i : Nat)), x3, x4, x5, x6] M = .nx [s, some (.ref d), some (.int (i : Nat)), y3, y4, y5, y6] M2 ∧ Dice d c r M2 := by
  obtain ⟨ms, ws, is, M1, q1, v, wl, il, D1⟩ := web_stmt (k + 10) D0 i s x3 x4 x5 x6
  obtain ⟨now, M2, q2, n, D2⟩ := now_stmt (k + 10) v D1 s (some (.int (i : Nat))) x4 x5 x6
  obtain ⟨R, hR, lR, gR⟩ := rng_has (n := 3) (by decide)
  have hevs : evs (g (k + 13)) (.cons (.c (.int (3))) .nil) (slL d (web ms ws is) (tI now) s (some (.int (i : Nat))) (some (tI (Z ms))) x6) M2 = .ok [.int ((3 : Nat) : Int)] M2 := by
    rw [evs_cons, ev_c, Res.bind_ok, evs_nil, Res.bind_ok]
    rfl
  have hev := evi_rngs hevs hR
  have step : ∀ (j : Nat) (y : D) (σ : S) (M' : Mem), R[j]? = some y → (∃ x, σ = slL d (web ms ws is) (tI now) s (some (.int (i : Nat))) (some (tI (Z ms))) x ∧ Dice d c r M') → ∃ σ1 σ2 M2, bindT (.n 6) y σ = some σ1 ∧ (xss (g (k + 13)) bodyI σ1 M' = .nx σ2 M2 ∨ xss (g (k + 13)) bodyI σ1 M' = .ct σ2 M2) ∧ ∃ x, σ2 = slL d (web ms ws is) (tI now) s (some (.int (i : Nat))) (some (tI (Z ms))) x ∧ Dice d c r M2 := by
    rintro j y σ M' hy ⟨x, rfl, D'⟩
    obtain ⟨M3, q, D3⟩ := inner_turn k v n wl il D' s (some (.int (i : Nat))) (some (tI (Z ms))) (some y)
    exact ⟨slL d (web ms ws is) (tI now) s (some (.int (i : Nat))) (some (tI (Z ms))) (some y), _, M3, rfl, .inl q, _, rfl, D3⟩
  obtain ⟨σ3, M3, e3, x, rfl, D3⟩ := fr_one (g := bindT (.n 6)) (b := xss (g (k + 13)) bodyI) (l := R) (fun _ σ M' => ∃ x, σ = slL d (web ms ws is) (tI now) s (some (.int (i : Nat))) (some (tI (Z ms))) x ∧ Dice d c r M') ⟨x6, rfl, D2⟩ step
  have q3 := xs_fr (b := bodyI) hev now_one e3
  obtain ⟨M4, q4, D4⟩ := last_stmt (k + 3) v n D3 s (some (.int (i : Nat))) x
  rw [show k + 10 + 3 = k + 13 from rfl] at q1 q2
  rw [show k + 3 + 10 = k + 13 from rfl] at q4
  refine ⟨some (web ms ws is), some (tI now), some (tI (Z ms)), x, M4, ?_, D4⟩
  unfold bodyT
  simp only [xss]
  rw [q1, seq_nx, q2, seq_nx, q3, seq_nx, q4, seq_nx]
theorem law_ok (ns : List Int) (h : ns.length ≤ 63) (k : Nat) : ∃ M1, C (k + 14) "law" [.fl (ns.map .int)] [] = .ok (.bl true) M1 := by
  rw [C, call_of f_law]
  obtain ⟨M1, q1, D1⟩ := state_ok (k + 12) ns h
  have v0 : ∀ (a b c e f u : Option D) (M : Mem), ev (g (k + 13)) (.v 0) [some (.fl (ns.map .int)), a, b, c, e, f, u] M = .ok (.fl (ns.map .int)) M := fun a b c e f u M => ev_v rfl
  have s1 : xs (g (k + 13)) (.set (.t (.n 1)) (.call "_law_state" (.cons (.v 0) .nil) [] .nil)) [some (.fl (ns.map .int)), none, none, none, none, none, none] [] = .nx [some (.fl (ns.map .int)), some (.ref 0), none, none, none, none, none] M1 := by
    have hv : evs (g (k + 13)) (.cons (.v 0) .nil) [some (.fl (ns.map .int)), none, none, none, none, none, none] [] = .ok [.fl (ns.map .int)] [] := by
      rw [evs_cons, v0, Res.bind_ok, evs_nil, Res.bind_ok]
    rw [xs_set, (call_ok (k__law_state _) hv).trans q1]
    rfl
  have cut : cutD (ns.map D.int) none (some 63) = ns.map .int := by
    have e1 : HT.sIx (ns.map D.int).length (ns.map D.int).length (some 63) = min 63 (ns.map D.int).length := HT.sIx_nat _ _ 63
    have e2 : HT.sIx (ns.map D.int).length 0 none = 0 := rfl
    unfold cutD
    rw [e1, e2, List.drop_zero, Nat.sub_zero]
    exact List.take_of_length_le (by rw [List.length_map]; omega)
  have sl : ∀ M, slcD (.fl (ns.map .int)) none (some 63) M = .ok (.ref M.length) (M ++ [.lst (ns.map .int)]) := fun M => by
    have hz : (ns.map D.int).length ≤ sizeLine := szN (by rw [List.length_map]; omega)
    simp only [slcD, lstOf, if_pos hz, cut]
  obtain ⟨R, hR, lR, gR⟩ := rng_has (n := 3 + ns.length / 6) (by omega)
  have hevs : evs (g (k + 13)) (.cons (.bin .add (.c (.int (3))) (.bin .fdiv (.blt .len (.cons (.slc (.v 0) .non (.som (.c (.int (63))))) .nil)) (.c (.int (6))))) .nil) [some (.fl (ns.map .int)), some (.ref 0), none, none, none, none, none] M1 = .ok [.int ((3 + ns.length / 6 : Nat) : Int)] (M1 ++ [.lst (ns.map .int)]) := by
    have s3 : ev (g (k + 13)) (.slc (.v 0) .non (.som (.c (.int (63))))) [some (.fl (ns.map .int)), some (.ref 0), none, none, none, none, none] M1 = .ok (.ref M1.length) (M1 ++ [.lst (ns.map .int)]) := by
      rw [ev_slc, v0, Res.bind_ok]
      simp only [evo, ev_c, Res.bind_ok]
      exact sl M1
    have l3 := len_ref (M := M1 ++ [.lst (ns.map D.int)]) (last_get M1 (.lst (ns.map D.int)))
    rw [List.length_map] at l3
    rw [evs_cons, ev_bin, ev_c, Res.bind_ok, ev_bin, ev_blt, evs_cons, s3, Res.bind_ok, evs_nil, Res.bind_ok, Res.bind_ok, l3, Res.bind_ok, ev_c, Res.bind_ok, fdiv_int _ _ _ (by decide) (log_lit (by decide) (by decide)), Res.bind_ok, add_int, Res.bind_ok, evs_nil, Res.bind_ok]
    congr 3
  have hev := evi_rngs hevs hR
  have step : ∀ (j : Nat) (y : D) (σ : S) (M' : Mem), R[j]? = some y → (∃ x2 x3 x4 x5 x6, σ = [some (.fl (ns.map .int)), some (.ref 0), x2, x3, x4, x5, x6] ∧ Dice 0 1 3 M') → ∃ σ1 σ2 M2, bindT (.n 2) y σ = some σ1 ∧ (xss (g (k + 13)) bodyT σ1 M' = .nx σ2 M2 ∨ xss (g (k + 13)) bodyT σ1 M' = .ct σ2 M2) ∧ ∃ x2 x3 x4 x5 x6, σ2 = [some (.fl (ns.map .int)), some (.ref 0), x2, x3, x4, x5, x6] ∧ Dice 0 1 3 M2 := by
    rintro j y σ M' hy ⟨x2, x3, x4, x5, x6, rfl, D'⟩
    obtain ⟨hj, rfl⟩ := gR j y hy
    obtain ⟨y3, y4, y5, y6, M2, q, D2⟩ := turn_ok k D' j (some (.fl (ns.map .int))) x3 x4 x5 x6
    exact ⟨[some (.fl (ns.map .int)), some (.ref 0), some (.int (j : Nat)), x3, x4, x5, x6], _, M2, rfl, .inl q, _, _, _, _, _, rfl, D2⟩
  obtain ⟨σ3, M3, e3, x2, x3, x4, x5, x6, rfl, D3⟩ := fr_one (g := bindT (.n 2)) (b := xss (g (k + 13)) bodyT) (l := R) (fun _ σ M' => ∃ x2 x3 x4 x5 x6, σ = [some (.fl (ns.map .int)), some (.ref 0), x2, x3, x4, x5, x6] ∧ Dice 0 1 3 M') ⟨none, none, none, none, none, rfl, D1.app⟩ step
  have q3 := xs_fr (b := bodyT) hev now_one e3
  refine ⟨M3, ?_⟩
  show ran (xss (g (k + 13)) b_law [some (.fl (ns.map .int)), none, none, none, none, none, none] []) = _
  rw [law_text]
  simp only [xss]
  rw [s1, seq_nx, q3, seq_nx, xs_ret, ev_c]
  rfl
end Mp.K07

set_option Elab.async false
set_option linter.all false
set_option maxRecDepth 100000
theorem Mp.K07.den (ns : List Int) (h : ns.length ≤ 63) : ∃ M1, Mp.callF Mp.K07.glob Mp.K07.L0 Mp.K07.fns Mp.K07.k0 "law" [.fl (ns.map .int)] [] [] = .ok (.bl true) M1 := Mp.K07.law_ok ns h 16
open PySem PySem.W PyProof.Rows
set_option maxHeartbeats 0 in
theorem PySem.Challenge.cw_carrynet_k07_arrivals_carries_states_holds : PySem.Challenge.rw_carrynet_k07_arrivals_carries_states.Holds := by
  w_on; o_law; k_head; (case hw => w_witness2)
  k_fill
  refine Mp.walk_go (l := PySem.Challenge.rw_carrynet_k07_arrivals_carries_states) (n := 63) (k := Mp.K07.k0) (xr := fun _ _ _ _ _ _ _ => False) (den := fun _ => Mp.callF Mp.K07.glob Mp.K07.L0 Mp.K07.fns Mp.K07.k0 "law") rfl (by decide) rfl ⟨rfl, by decide, by decide⟩ (fun w h Y => PySem.W.kIn_of Y) (fun _ ns h => Mp.K07.den ns h) ?F
  case F =>
    intro w mg fa h KX G hmg hX base _ _
    refine' Mp.md_end KX G Mp.K07.rows_ok hmg (show Mp.K07.fns "law" = some _ from rfl) ?qf ?qc ?qn
    (case qf =>
      unfold Mp.K07.rows
      refine' .cons ?f0 (.cons ?f1 (.cons ?f2 (.cons ?f3 (.cons ?f4 (.cons ?f5 (.cons ?f6 (.cons ?f7 (.cons ?f8 (.cons ?f9 (.cons ?f10 (.cons ?f11 (.cons ?f12 (.cons ?f13 (.cons ?f14 (.cons ?f15 (.cons ?f16 (.cons ?f17 (.cons ?f18 (.cons ?f19 (.cons ?f20 (.cons ?f21 (.cons ?f22 (.cons ?f23 (.cons ?f24 (.cons ?f25 (.cons ?f26 (.cons ?f27 (.cons ?f28 (.cons ?f29 (.cons ?f30 (.nil)))))))))))))))))))))))))))))))
      (case f0 => refine' Mp.fnK ?a ?l ?c ?k; (case a => k_is); (case l => k_is); (case c => k_is); (case k => k_is))
      (case f1 => refine' Mp.fnK ?a ?l ?c ?k; (case a => k_is); (case l => k_is); (case c => k_is); (case k => k_is))
      (case f2 => refine' Mp.fnK ?a ?l ?c ?k; (case a => k_is); (case l => k_is); (case c => k_is); (case k => k_is))
      (case f3 => refine' Mp.fnK ?a ?l ?c ?k; (case a => k_is); (case l => k_is); (case c => k_is); (case k => k_is))
      (case f4 => refine' Mp.fnK ?a ?l ?c ?k; (case a => k_is); (case l => k_is); (case c => k_is); (case k => k_is))
      (case f5 => refine' Mp.fnK ?a ?l ?c ?k; (case a => k_is); (case l => k_is); (case c => k_is); (case k => k_is))
      (case f6 => refine' Mp.fnK ?a ?l ?c ?k; (case a => k_is); (case l => k_is); (case c => k_is); (case k => k_is))
      (case f7 => refine' Mp.fnK ?a ?l ?c ?k; (case a => k_is); (case l => k_is); (case c => k_is); (case k => k_is))
      (case f8 => refine' Mp.fnK ?a ?l ?c ?k; (case a => k_is); (case l => k_is); (case c => k_is); (case k => k_is))
      (case f9 => refine' Mp.fnK ?a ?l ?c ?k; (case a => k_is); (case l => k_is); (case c => k_is); (case k => k_is))
      (case f10 => refine' Mp.fnK ?a ?l ?c ?k; (case a => k_is); (case l => k_is); (case c => k_is); (case k => k_is))
      (case f11 => refine' Mp.fnK ?a ?l ?c ?k; (case a => k_is); (case l => k_is); (case c => k_is); (case k => k_is))
      (case f12 => refine' Mp.fnK ?a ?l ?c ?k; (case a => k_is); (case l => k_is); (case c => k_is); (case k => k_is))
      (case f13 => refine' Mp.fnK ?a ?l ?c ?k; (case a => k_is); (case l => k_is); (case c => k_is); (case k => k_is))
      (case f14 => refine' Mp.fnK ?a ?l ?c ?k; (case a => k_is); (case l => k_is); (case c => k_is); (case k => k_is))
      (case f15 => refine' Mp.fnK ?a ?l ?c ?k; (case a => k_is); (case l => k_is); (case c => k_is); (case k => k_is))
      (case f16 => refine' Mp.fnK ?a ?l ?c ?k; (case a => k_is); (case l => k_is); (case c => k_is); (case k => k_is))
      (case f17 => refine' Mp.fnK ?a ?l ?c ?k; (case a => k_is); (case l => k_is); (case c => k_is); (case k => k_is))
      (case f18 => refine' Mp.fnK ?a ?l ?c ?k; (case a => k_is); (case l => k_is); (case c => k_is); (case k => k_is))
      (case f19 => refine' Mp.fnK ?a ?l ?c ?k; (case a => k_is); (case l => k_is); (case c => k_is); (case k => k_is))
      (case f20 => refine' Mp.fnK ?a ?l ?c ?k; (case a => k_is); (case l => k_is); (case c => k_is); (case k => k_is))
      (case f21 => refine' Mp.fnK ?a ?l ?c ?k; (case a => k_is); (case l => k_is); (case c => k_is); (case k => k_is))
      (case f22 => refine' Mp.fnK ?a ?l ?c ?k; (case a => k_is); (case l => k_is); (case c => k_is); (case k => k_is))
      (case f23 => refine' Mp.fnK ?a ?l ?c ?k; (case a => k_is); (case l => k_is); (case c => k_is); (case k => k_is))
      (case f24 => refine' Mp.fnK ?a ?l ?c ?k; (case a => k_is); (case l => k_is); (case c => k_is); (case k => k_is))
      (case f25 => refine' Mp.fnK ?a ?l ?c ?k; (case a => k_is); (case l => k_is); (case c => k_is); (case k => k_is))
      (case f26 => refine' Mp.fnK ?a ?l ?c ?k; (case a => k_is); (case l => k_is); (case c => k_is); (case k => k_is))
      (case f27 => refine' Mp.fnK ?a ?l ?c ?k; (case a => k_is); (case l => k_is); (case c => k_is); (case k => k_is))
      (case f28 => refine' Mp.fnK ?a ?l ?c ?k; (case a => k_is); (case l => k_is); (case c => k_is); (case k => k_is))
      (case f29 => refine' Mp.fnK ?a ?l ?c ?k; (case a => k_is); (case l => k_is); (case c => k_is); (case k => k_is))
      (case f30 => refine' Mp.fnK ?a ?l ?c ?k; (case a => k_is); (case l => k_is); (case c => k_is); (case k => k_is)))
    (case qc =>
      unfold Mp.K07.cs
      refine' .cons ?c0 (.cons ?c1 (.cons ?c2 (.cons ?c3 (.nil))))
      (case c0 => refine' Mp.intK KX G ?a; (case a => k_is))
      (case c1 => refine' Mp.intK KX G ?a; (case a => k_is))
      (case c2 => refine' Mp.intK KX G ?a; (case a => k_is))
      (case c3 => exact Mp.intL hX.2 (by rfl)))
    (case qn =>
      unfold Mp.bltNames
      refine' .cons ?z0 (.cons ?z1 (.cons ?z2 (.cons ?z3 (.cons ?z4 (.cons ?z5 (.cons ?z6 (.cons ?z7 (.cons ?z8 (.cons ?z9 (.cons ?z10 (.cons ?z11 (.cons ?z12 (.cons ?z13 (.cons ?z14 (.cons ?z15 (.nil))))))))))))))))
      (case z0 => k_is)
      (case z1 => k_is)
      (case z2 => k_is)
      (case z3 => k_is)
      (case z4 => k_is)
      (case z5 => k_is)
      (case z6 => k_is)
      (case z7 => k_is)
      (case z8 => k_is)
      (case z9 => k_is)
      (case z10 => k_is)
      (case z11 => k_is)
      (case z12 => k_is)
      (case z13 => k_is)
      (case z14 => k_is)
      (case z15 => k_is))
