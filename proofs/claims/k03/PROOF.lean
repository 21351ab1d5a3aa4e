import PyProof.Rows.All
import Wide.All
import OpenK.AllK
import Wide.FinOn
import HandS.Dict
import HandS.List
import HandS.SetKeys
import HandS.HotCalls
import HandS.ForMost
import HandS.ForExc
import HandS.IsInst
import HandS.Wide
import HandS.Codes
import HandS.Style
import HandS.Replace
import HandS.Conv
import HandS.TupLe
import HandS.Text
import HandS.More
import HandS.Deep
import HandS.SetFor
import HandS.ExcInitHot
import HandS.DictComp
import HandS.Flow
import HandS.ExcIs
import HandS.ExcField
import KE.KExcIs
import HandS.Small
import HandS.Defaults
import HandS.HeadHook1
import HandS.HeadHook2
import HandS.Head0
import HandS.Head1
import HandS.Head2
import HandS.HeadEnd
import PySem.Challenge.RW_forkflags_k03_whole_ways_of_trees
set_option Elab.async false
set_option linter.all false
set_option maxRecDepth 100000
/-! An own small language: values as trees, mutable things as numbered boxes, its evaluator. -/
namespace FV
open PySem

abbrev Cs := List Nat
/-- a key -/
inductive Kk where
  | i (i : Int) | s (x : Cs)
  deriving DecidableEq

inductive D where
  | non | bl (b : Bool) | int (i : Int) | str (x : Cs)
  | tup (xs : List D) | lst (xs : List D)
  | dic (ks : List Kk) (vs : List D)
  | set (ks : List Kk)
  | ins (c : Nat) (ns : List Nat) (vs : List D)
  | box (i : Nat)

inductive Ob where
  | lst (xs : List D) | dic (ks : List Kk) (vs : List D) | set (ks : List Kk) | ins (c : Nat) (ns : List Nat) (vs : List D)

abbrev Hb := List (Option Ob)

/-- a slot: a value, or a caught exception -/
inductive Sl where
  | v (d : D) | x (c : Nat) (ns : List Nat) (vs : List D)
abbrev Env := List (Option Sl)

inductive R (α : Type) where
  | ok (a : α) (h : Hb) | ex (c : Nat) (ns : List Nat) (vs : List D) (h : Hb) | st
@[inline] def R.bind {α β : Type} (r : R α) (f : α → Hb → R β) : R β :=
  match r with
  | .ok a h => f a h
  | .ex c ns vs h => .ex c ns vs h
  | .st => .st
@[simp] theorem R.bind_ok {α β : Type} (a : α) (h : Hb) (f : α → Hb → R β) : (R.ok a h).bind f = f a h := rfl
@[simp] theorem R.bind_ex {α β : Type} (c : Nat) (ns : List Nat) (vs : List D) (h : Hb) (f : α → Hb → R β) : (R.ex c ns vs h).bind f = .ex c ns vs h := rfl
@[simp] theorem R.bind_st {α β : Type} (f : α → Hb → R β) : (R.st : R α).bind f = .st := rfl

theorem R.bind_assoc {α β γ : Type} (r : R α) (f : α → Hb → R β) (g : β → Hb → R γ) : (r.bind f).bind g = r.bind fun a h => (f a h).bind g := by
  cases r <;> rfl

inductive Out where
  | nx (σ : Env) (h : Hb) | rt (d : D) (h : Hb) | ex (c : Nat) (ns : List Nat) (vs : List D) (σ : Env) (h : Hb) | st

/-! ### views -/
def bx (h : Hb) (i : Nat) : Option Ob := (h[i]?).join
def seqL (h : Hb) : D → Option (List D)
  | .lst xs => some xs
  | .box i => match bx h i with
    | some (.lst xs) => some xs
    | _ => none
  | _ => none
def seqT : D → Option (List D)
  | .tup xs => some xs
  | _ => none
def dicV (h : Hb) : D → Option (List Kk × List D)
  | .dic ks vs => some (ks, vs)
  | .box i => match bx h i with
    | some (.dic ks vs) => some (ks, vs)
    | _ => none
  | _ => none
def insV (h : Hb) : D → Option (Nat × List Nat × List D)
  | .ins c ns vs => some (c, ns, vs)
  | .box i => match bx h i with
    | some (.ins c ns vs) => some (c, ns, vs)
    | _ => none
  | _ => none
def setV (h : Hb) : D → Option (List Kk)
  | .set ks => some ks
  | .box i => match bx h i with
    | some (.set ks) => some ks
    | _ => none
  | _ => none

def keyD : D → Option Kk
  | .int i => some (.i i)
  | .str x => some (.s x)
  | _ => none
def dKey : Kk → D
  | .i i => .int i
  | .s x => .str x

/- all boxes of a value are below m -/
mutual
def below (m : Nat) : D → Bool
  | .non | .bl _ | .int _ | .str _ | .set _ => true
  | .tup xs => belows m xs
  | .lst xs => belows m xs
  | .dic _ vs => belows m vs
  | .ins _ _ vs => belows m vs
  | .box i => decide (i < m)
def belows (m : Nat) : List D → Bool
  | [] => true
  | d :: r => below m d && belows m r
end
def belowO (m : Nat) : Ob → Bool
  | .lst xs => belows m xs
  | .dic _ vs => belows m vs
  | .set _ => true
  | .ins _ _ vs => belows m vs

/-! ### ==, as Python has it, on plain data -/
mutual
def eqv : D → D → Bool
  | .non, .non => true
  | .bl a, .bl b => a == b
  | .bl a, .int j => (if a then 1 else 0) == j
  | .int i, .bl b => i == (if b then 1 else 0)
  | .int a, .int b => a == b
  | .str a, .str b => a == b
  | .lst a, .lst b => eqvs a b
  | .tup a, .tup b => eqvs a b
  | _, _ => false
def eqvs : List D → List D → Bool
  | [], [] => true
  | x :: xs, y :: ys => eqv x y && eqvs xs ys
  | _, _ => false
end
def flat : D → Bool
  | .non | .bl _ | .int _ | .str _ => true
  | _ => false
/- plain data nested less than n deep -/
mutual
def plain : Nat → D → Bool
  | _, .non => true
  | _, .bl _ => true
  | _, .int _ => true
  | _, .str x => x.all (· < 1114112)
  | 0, .tup _ => false
  | 0, .lst _ => false
  | n + 1, .tup xs => plains n xs
  | n + 1, .lst xs => plains n xs
  | _, _ => false
def plains : Nat → List D → Bool
  | _, [] => true
  | n, d :: r => plain n d && plains n r
end
def lineN : Nat := 16777216

/-! ### operations -/
inductive Ty where
  | int | bool | str | list | tuple | dict | set
  deriving DecidableEq
inductive O1 where
  | len | strI | intI | list (b : Bool) | lkeys (b : Bool) | keys | all | any | max1 | min1 | sum1 | pop | neg | isTy (t : Ty) | set0
  deriving DecidableEq
inductive O2 where
  | add | sub | mul | fdiv | mod | pow | shl | shr | band
  | eq | ne | lt | le | gt | ge | inn | notin | isA | isnot
  | ix | append | sadd | index | count | starts | min2 | max2 | slU | slL
  deriving DecidableEq
inductive O3 where
  | slLU
  deriving DecidableEq

/-- a list result: as a tree, or as a new box -/
def mkL (b : Bool) (xs : List D) (h : Hb) : R D :=
  if b then .ok (.box h.length) (h ++ [some (.lst xs)]) else .ok (.lst xs) h
def intsD : List D → Option (List Int)
  | [] => some []
  | .int i :: r => (intsD r).map (i :: ·)
  | _ :: _ => none
def boolsD : List D → Option (List Bool)
  | [] => some []
  | .bl i :: r => (boolsD r).map (i :: ·)
  | _ :: _ => none
def maxI : List Int → Int
  | [] => 0
  | [x] => x
  | x :: r => max x (maxI r)
def minI : List Int → Int
  | [] => 0
  | [x] => x
  | x :: r => min x (minI r)
def istr (i : Int) : Cs := ((toString i : Str)).cps.toList
def tyOf (h : Hb) : D → Option Ty
  | .bl _ => some .bool
  | .int _ => some .int
  | .str _ => some .str
  | .tup _ => some .tuple
  | .lst _ => some .list
  | .dic _ _ => some .dict
  | .box i => match bx h i with
    | some (.lst _) => some .list
    | some (.dic _ _) => some .dict
    | _ => none
  | _ => none
def isTyV (h : Hb) (d : D) (t : Ty) : Option Bool :=
  match d with
  | .non => some false
  | _ => (tyOf h d).map fun u => decide (u = t) || (decide (u = .bool) && decide (t = .int))

def popB (h : Hb) : D → R D
  | .box i => match bx h i with
    | some (.lst xs) => match xs[xs.length - 1]? with
      | some y => .ok y (h.set i (some (.lst xs.dropLast)))
      | none => .st
    | _ => .st
  | _ => .st

def sem1 (o : O1) (a : D) (h : Hb) : R D :=
  match o with
  | .len => match seqL h a with
    | some xs => .ok (.int xs.length) h
    | none => match a with
      | .tup xs => .ok (.int xs.length) h
      | .str x => if x.length ≤ lineN then .ok (.int x.length) h else .st
      | _ => match setV h a with
        | some ks => .ok (.int ks.length) h
        | none => match dicV h a with
          | some (ks, _) => .ok (.int ks.length) h
          | none => .st
  | .strI => match a with
    | .int i => if i.natAbs.log2 < 1920 then .ok (.str (istr i)) h else .st
    | _ => .st
  | .intI => match a with
    | .int i => .ok (.int i) h
    | .bl b => .ok (.int (if b then 1 else 0)) h
    | _ => .st
  | .list b => match seqL h a with
    | some xs => mkL b xs h
    | none => match a with
      | .tup xs => mkL b xs h
      | _ => match dicV h a with
        | some (ks, _) => mkL b (ks.map dKey) h
        | none => .st
  | .lkeys b => match dicV h a with
    | some (ks, _) => mkL b (ks.map dKey) h
    | none => .st
  | .keys => match dicV h a with
    | some (ks, _) => .ok (.lst (ks.map dKey)) h
    | none => .st
  | .all => match (seqL h a).bind boolsD with
    | some bs => .ok (.bl (bs.all id)) h
    | none => .st
  | .any => match (seqL h a).bind boolsD with
    | some bs => .ok (.bl (bs.any id)) h
    | none => .st
  | .max1 => match (seqL h a).bind intsD with
    | some zs => if 0 < zs.length then .ok (.int (maxI zs)) h else .st
    | none => .st
  | .min1 => match (seqL h a).bind intsD with
    | some zs => if 0 < zs.length then .ok (.int (minI zs)) h else .st
    | none => .st
  | .sum1 => match (seqL h a).bind intsD with
    | some zs => .ok (.int zs.sum) h
    | none => .st
  | .pop => popB h a
  | .neg => match a with
    | .int i => .ok (.int (-i)) h
    | _ => .st
  | .isTy t => match isTyV h a t with
    | some b => .ok (.bl b) h
    | none => .st
  | .set0 => .st

def cut {α : Type} (xs : List α) (lo hi : Option Int) : List α :=
  (xs.drop (HT.sIx xs.length 0 lo)).take (HT.sIx xs.length xs.length hi - HT.sIx xs.length 0 lo)
/-- the value at a key -/
def getD : List Kk → List D → Kk → Option D
  | k :: ks, v :: vs, j => if k = j then some v else getD ks vs j
  | _, _, _ => none
def slice (a : D) (lo hi : Option Int) (h : Hb) : R D :=
  match seqL h a with
  | some xs => .ok (.lst (cut xs lo hi)) h
  | none => match a with
    | .str x => if x.length ≤ lineN then .ok (.str (cut x lo hi)) h else .st
    | .tup xs => if HT.sIx xs.length 0 lo = 0 ∧ HT.sIx xs.length xs.length hi = xs.length then .st else .ok (.tup (cut xs lo hi)) h
    | _ => .st
def scalD (a b : D) : Bool :=
  match a, b with
  | .non, .non => true | .non, .int _ => true | .int _, .non => true | .non, .bl _ => true | .bl _, .non => true | .non, .str _ => true | .str _, .non => true
  | .int _, .int _ => true | .bl _, .bl _ => true | .str _, .str _ => true
  | .int _, .str _ => true | .str _, .int _ => true | .bl _, .str _ => true | .str _, .bl _ => true
  | _, _ => false
/-- == : none where it is not told -/
def eqD (a b : D) : Option Bool :=
  if scalD a b || (plain 60 a && plain 60 b) then some (eqv a b) else none
def inD (h : Hb) (a b : D) : Option Bool :=
  match setV h b with
  | some ks => (keyD a).map fun k => decide (k ∈ ks)
  | none => match seqL h b with
    | some xs => if flat a && xs.all flat then some (xs.any fun y => eqv y a) else if plain 60 a && plains 60 xs then some (xs.any fun y => eqv y a) else none
    | none => match b with
      | .tup xs => if flat a && xs.all flat then some (xs.any fun y => eqv y a) else none
      | _ => match dicV h b with
        | some (ks, _) => (keyD a).map fun k => decide (k ∈ ks)
        | none => none
def ixD (h : Hb) (a b : D) : R D :=
  match b with
  | .int i => match seqL h a with
    | some xs => match L2.atI xs i with
      | some y => .ok y h
      | none => .st
    | none => match a with
      | .tup xs => match L2.atI xs i with
        | some y => .ok y h
        | none => .st
      | .str x => if x.length ≤ lineN then match L2.atI x i with
          | some c => .ok (.str [c]) h
          | none => .st
        else .st
      | _ => match dicV h a with
        | some (ks, vs) => match getD ks vs (.i i) with
          | some y => .ok y h
          | none => .st
        | none => .st
  | .str x => match dicV h a with
    | some (ks, vs) => match getD ks vs (.s x) with
      | some y => .ok y h
      | none => .st
    | none => .st
  | _ => .st
/-- a write to box i with a value d: m is the base of the running def -/
def wrOk (m i : Nat) (d : D) : Bool := decide (m ≤ i) || below i d
def appB (m : Nat) (h : Hb) (a b : D) : R D :=
  match a with
  | .box i => match bx h i with
    | some (.lst xs) => if xs.length < lineN ∧ wrOk m i b = true then .ok .non (h.set i (some (.lst (xs ++ [b])))) else .st
    | _ => .st
  | _ => .st
def saddB (h : Hb) (a b : D) : R D :=
  match a, keyD b with
  | .box i, some k => match bx h i with
    | some (.set ks) => if ks.length + 1 < 4096 then .ok .non (h.set i (some (.set (if k ∈ ks then ks else ks ++ [k])))) else .st
    | _ => .st
  | _, _ => .st
def cmpI (f : Int → Int → Bool) (g : Cs → Cs → Bool) (a b : D) (h : Hb) : R D :=
  match a, b with
  | .int i, .int j => .ok (.bl (f i j)) h
  | .str x, .str y => .ok (.bl (g x y)) h
  | _, _ => .st
def optB (o : Option Bool) (h : Hb) : R D :=
  match o with
  | some b => .ok (.bl b) h
  | none => .st
def isD (a b : D) : Option Bool :=
  match a, b with
  | .bl x, .bl y => some (decide (x = y))
  | .non, .non => some true
  | _, .non => some false
  | _, _ => none

def arith (c : Int → Int → Prop) [∀ i j, Decidable (c i j)] (f : Int → Int → Int) (a b : D) (h : Hb) : R D :=
  match a, b with
  | .int i, .int j => if c i j then .ok (.int (f i j)) h else .st
  | _, _ => .st
def sem2 (m : Nat) (o : O2) (a b : D) (h : Hb) : R D :=
  match o with
  | .add => match a, b with
    | .int i, .int j => .ok (.int (i + j)) h
    | .str x, .str y => if x.length + y.length ≤ lineN then .ok (.str (x ++ y)) h else .st
    | .tup x, .tup y => if x ≠ [] ∧ x.length + y.length ≤ lineN then .ok (.tup (x ++ y)) h else .st
    | _, _ => match seqL h a, seqL h b with
      | some x, some y => if x.length + y.length ≤ lineN then .ok (.lst (x ++ y)) h else .st
      | _, _ => .st
  | .sub => match a, b with
    | .int i, .int j => .ok (.int (i - j)) h
    | _, _ => .st
  | .mul => arith (fun i j => i.natAbs.log2 + j.natAbs.log2 < 1000000) (fun i j => i * j) a b h
  | .fdiv => arith (fun i j => 0 < j ∧ j.natAbs.log2 < 9000) (fun i j => i / j) a b h
  | .mod => arith (fun i j => 0 < j) (fun i j => i % j) a b h
  | .pow => arith (fun i j => 0 ≤ j ∧ j ≤ 1000000 ∧ i.natAbs < 2 ^ 64) (fun i j => i ^ j.toNat) a b h
  | .shl => arith (fun i j => 0 ≤ j ∧ j ≤ 1000000 ∧ i.natAbs < 2 ^ 64) (fun i j => i * 2 ^ j.toNat) a b h
  | .shr => arith (fun i j => 0 ≤ j) (fun i j => i / 2 ^ j.toNat) a b h
  | .band => .st
  | .eq => optB (eqD a b) h
  | .ne => optB ((eqD a b).map not) h
  | .lt => cmpI (fun i j => decide (i < j)) (fun x y => decide (x < y)) a b h
  | .le => cmpI (fun i j => decide (i ≤ j)) (fun x y => !decide (y < x)) a b h
  | .gt => cmpI (fun i j => decide (j < i)) (fun x y => decide (y < x)) a b h
  | .ge => cmpI (fun i j => decide (j ≤ i)) (fun x y => !decide (x < y)) a b h
  | .inn => optB (inD h a b) h
  | .notin => optB ((inD h a b).map not) h
  | .isA => optB (isD a b) h
  | .isnot => optB ((isD a b).map not) h
  | .ix => ixD h a b
  | .append => appB m h a b
  | .sadd => saddB h a b
  | .index => match a, b with
    | .str x, .str [c] => if x.Nodup ∧ c ∈ x then .ok (.int (x.idxOf c)) h else .st
    | _, _ => .st
  | .count => match seqL h a with
    | some xs => if flat b && xs.all flat then .ok (.int (xs.countP fun y => eqv y b)) h else .st
    | none => .st
  | .starts => match a, b with
    | .str x, .str y => .ok (.bl (y.isPrefixOf x)) h
    | _, _ => .st
  | .min2 => match a, b with
    | .int i, .int j => .ok (.int (min i j)) h
    | _, _ => .st
  | .max2 => match a, b with
    | .int i, .int j => .ok (.int (max i j)) h
    | _, _ => .st
  | .slU => match b with
    | .int j => slice a none (some j) h
    | _ => .st
  | .slL => match b with
    | .int j => slice a (some j) none h
    | _ => .st
def sem3 (o : O3) (a b c : D) (h : Hb) : R D :=
  match o, b, c with
  | .slLU, .int i, .int j => slice a (some i) (some j) h
  | _, _, _ => .st

def truth (h : Hb) (d : D) : Option Bool :=
  match seqL h d with
  | some xs => some (!xs.isEmpty)
  | none => match d with
    | .non => some false
    | .bl b => some b
    | .int i => some (i != 0)
    | .str x => if x.length ≤ lineN then some (!x.isEmpty) else none
    | .tup xs => some (!xs.isEmpty)
    | _ => none

end FV

/-! The language itself, and its evaluator. -/
namespace FV
open PySem

mutual
inductive Ex where
  | var (i : Nat)
  | non | bl (b : Bool) | int (i : Int) | str (x : Cs)
  | glo (g : Nat)
  | op1 (o : O1) (a : Ex) | op2 (o : O2) (a b : Ex) | op3 (o : O3) (a b c : Ex)
  | cmp (o : O2) (a b : Ex) | cmp3 (o p : O2) (a b c : Ex)
  | and (a b : Ex) | or (a b : Ex) | not (a : Ex)
  | ite (t a b : Ex)
  | tup (as : Xs) | lst (b : Bool) (as : Xs) | dct0 (b : Bool) | set0 (b : Bool)
  | call (f : Nat) (as : As)
  | new (c : Nat) (as : Xs)
  | fld (a : Ex) (f : Nat)
  | lc (b : Bool) (own : List Nat) (tg : List Nat) (it : Src) (c e : Ex)
  | dc (b : Bool) (own : List Nat) (tg : List Nat) (it : Src) (c k e : Ex)
  | isE (i : Nat) (c : Nat) | isV (i : Nat) | atE (i f : Nat)
inductive Xs where
  | nil | cons (a : Ex) (r : Xs)
/-- arguments: an expression, or a slot with a caught exception -/
inductive As where
  | nil | ex (a : Ex) (r : As) | ec (i : Nat) (r : As)
inductive Src where
  | e (a : Ex) | rng1 (a : Ex) | rng2 (a b : Ex)
end

mutual
inductive Sm where
  | expr (e : Ex) | set (i : Nat) (e : Ex) | unp (is : List Nat) (e : Ex) | seti (o i v : Ex) | setf (o : Ex) (f : Nat) (v : Ex)
  | ret (e : Ex) | raise (c : Nat) (as : Xs)
  | ite (t : Ex) (a b : Sms) | whl (t : Ex) (b : Sms) | for (tg : List Nat) (it : Src) (b : Sms)
  | tr (b : Sms) (hs : Hs)
  | pass
inductive Sms where
  | nil | cons (a : Sm) (r : Sms)
/-- except clauses: the class, the slot, the suite -/
inductive Hs where
  | nil | cons (c i : Nat) (b : Sms) (r : Hs)
end

/-- what is around an expression: calls, classes, the module's constants; m: the base of the running def; hot: in an except suite -/
structure Cf where
  call : Bool → Nat → List Sl → Hb → R D
  new : Nat → List D → Hb → R D
  glo : Nat → Option D
  sub : Nat → Nat → Bool
  sve : Nat → Bool
  exn : Nat → List Nat × Nat
  m : Nat
  hot : Bool

def getV (σ : Env) (i : Nat) : Option D :=
  match σ[i]? with
  | some (some (.v d)) => some d
  | _ => none
def getX (σ : Env) (i : Nat) : Option (Nat × List Nat × List D) :=
  match σ[i]? with
  | some (some (.x c ns vs)) => some (c, ns, vs)
  | _ => none
def optV (o : Option D) (h : Hb) : R D :=
  match o with
  | some d => .ok d h
  | none => .st
/-- target slots take a value: one slot as it is, more than one by unpacking -/
def bindT (h : Hb) (σ : Env) (tg : List Nat) (d : D) : Option Env :=
  match tg with
  | [i] => some (σ.set i (some (.v d)))
  | is => match seqT d with
    | some xs => if xs.length = is.length then some ((is.zip xs).foldl (fun σ p => σ.set p.1 (some (.v p.2))) σ) else none
    | none => none
def wipeE (σ : Env) (own : List Nat) : Env := own.foldr (fun i σ => σ.set i none) σ
def rngL (lo : Int) (n : Nat) : List D := (List.range n).map fun (k : Nat) => D.int (lo + k)
def inR (i : Int) : Bool := decide (-(2 ^ 62) ≤ i ∧ i < 2 ^ 62)
/-- the items of what is walked; a dict must be a tree -/
def items (h : Hb) (d : D) : Option (List D) :=
  match seqL h d with
  | some xs => some xs
  | none => match d with
    | .tup xs => some xs
    | .str x => if x.length ≤ lineN then some (x.map fun c => .str [c]) else none
    | .dic ks _ => some (ks.map dKey)
    | _ => none
/-- an exception within a comprehension is not told -/
def R.nox {α : Type} : R α → R α
  | .ex _ _ _ _ => .st
  | r => r
@[simp] theorem R.nox_ok {α : Type} (a : α) (h : Hb) : (R.ok a h).nox = .ok a h := rfl
@[simp] theorem R.nox_st {α : Type} : (R.st : R α).nox = .st := rfl
/-- turn by turn over the items of a comprehension -/
def lcGo (tg : List Nat) (σ : Env) (st : Hb → Bool) (c : Env → Hb → R Bool) (e : Env → Hb → R D) : List D → List D → Hb → R (List D)
  | [], acc, h => if st h then .ok acc h else .st
  | x :: r, acc, h =>
    if st h then
      match bindT h σ tg x with
      | none => .st
      | some σ' =>
        (c σ' h).nox.bind fun b h =>
          if b then
            (e σ' h).nox.bind fun y h => if acc.length < lineN then lcGo tg σ st c e r (acc ++ [y]) h else .st
          else lcGo tg σ st c e r acc h
    else .st
def putD (ks : List Kk) (vs : List D) (k : Kk) (v : D) : List Kk × List D :=
  if k ∈ ks then (ks, (ks.zip vs).map fun p => if p.1 = k then v else p.2) else (ks ++ [k], vs ++ [v])
def dcGo (tg : List Nat) (σ : Env) (st : Hb → Bool) (c : Env → Hb → R Bool) (k e : Env → Hb → R D) : List D → List Kk → List D → Hb → R (List Kk × List D)
  | [], ks, vs, h => if st h then .ok (ks, vs) h else .st
  | x :: r, ks, vs, h =>
    if st h then
      match bindT h σ tg x with
      | none => .st
      | some σ' =>
        (c σ' h).nox.bind fun b h =>
          if b then
            (k σ' h).nox.bind fun kd h => (e σ' h).nox.bind fun y h =>
              match keyD kd with
              | some kk => if ks.length < lineN then dcGo tg σ st c k e r (putD ks vs kk y).1 (putD ks vs kk y).2 h else .st
              | none => .st
          else dcGo tg σ st c k e r ks vs h
    else .st
open Classical in
/-- while a box is walked its list stays -/
noncomputable def stays (h0 : Hb) (d : D) (h : Hb) : Bool :=
  match d with
  | .box i => decide (bx h i = bx h0 i)
  | _ => true
def truthR (d : D) (h : Hb) : R Bool :=
  match truth h d with
  | some b => .ok b h
  | none => .st

/-- what is not served while an exception is handled -/
def calm1 : O1 → Bool
  | .list _ | .lkeys _ | .keys | .all | .any | .max1 | .min1 | .sum1 => true
  | _ => false
/-- the receiver of a method is of its type -/
def recv (o : O2) (x : D) (h : Hb) : Bool :=
  match o with
  | .append => (seqL h x).isSome
  | .count => (seqL h x).isSome
  | .sadd => match x with
    | .box i => match bx h i with
      | some (.set _) => true
      | _ => false
    | _ => false
  | .index => match x with
    | .str _ => true
    | _ => false
  | .starts => match x with
    | .str _ => true
    | _ => false
  | _ => true
def isI : D → Bool
  | .int _ => true
  | _ => false
def calm2 : O2 → Bool
  | .min2 | .max2 => true
  | _ => false
def mkD (b : Bool) (q : List Kk × List D) (h : Hb) : R D := if b then .ok (.box h.length) (h ++ [some (.dic q.1 q.2)]) else .ok (.dic q.1 q.2) h
mutual
noncomputable def evE (cf : Cf) : Ex → Env → Hb → R D
  | .var i, σ, h => optV (getV σ i) h
  | .non, _, h => .ok .non h
  | .bl b, _, h => .ok (.bl b) h
  | .int i, _, h => .ok (.int i) h
  | .str x, _, h => .ok (.str x) h
  | .glo g, _, h => optV (cf.glo g) h
  | .op1 o a, σ, h => (evE cf a σ h).bind fun x h => if cf.hot && calm1 o then .st else sem1 o x h
  | .op2 o a b, σ, h => (evE cf a σ h).bind fun x h => if recv o x h then (evE cf b σ h).bind fun y h => if cf.hot && calm2 o then .st else sem2 cf.m o x y h else .st
  | .op3 o a b c, σ, h => (evE cf a σ h).bind fun x h => (evE cf b σ h).bind fun y h => if isI y then (evE cf c σ h).bind fun z h => sem3 o x y z h else .st
  | .cmp o a b, σ, h => (evE cf a σ h).bind fun x h => (evE cf b σ h).bind fun y h => sem2 cf.m o x y h
  | .cmp3 o p a b c, σ, h => (evE cf a σ h).bind fun x h => (evE cf b σ h).bind fun y h => (sem2 cf.m o x y h).bind fun k h =>
    match k with
    | .bl true => (evE cf c σ h).bind fun z h => sem2 cf.m p y z h
    | .bl false => .ok (.bl false) h
    | _ => .st
  | .and a b, σ, h => (evE cf a σ h).bind fun x h => match truth h x with
    | some true => evE cf b σ h
    | some false => .ok x h
    | none => .st
  | .or a b, σ, h => (evE cf a σ h).bind fun x h => match truth h x with
    | some true => .ok x h
    | some false => evE cf b σ h
    | none => .st
  | .not a, σ, h => (evE cf a σ h).bind fun x h => match truth h x with
    | some k => .ok (.bl (!k)) h
    | none => .st
  | .ite t a b, σ, h => (evT cf t σ h).bind fun k h => if k then evE cf a σ h else evE cf b σ h
  | .tup as, σ, h => (evXs cf as σ h).bind fun xs h => if xs.length ≤ lineN then .ok (.tup xs) h else .st
  | .lst b as, σ, h => (evXs cf as σ h).bind fun xs h => if xs.length ≤ lineN then mkL b xs h else .st
  | .dct0 b, _, h => if b then .ok (.box h.length) (h ++ [some (.dic [] [])]) else .ok (.dic [] []) h
  | .set0 b, _, h => if b then .ok (.box h.length) (h ++ [some (.set [])]) else .ok (.set []) h
  | .call f as, σ, h => (evAs cf as σ h).bind fun xs h => cf.call cf.hot f xs h
  | .new c as, σ, h => (evXs cf as σ h).bind fun xs h => if cf.hot then .st else cf.new c xs h
  | .fld a f, σ, h => (evE cf a σ h).bind fun x h =>
    match insV h x with
    | some (_, ns, vs) => optV ((ns.zip vs).lookup f) h
    | none => .st
  | .lc b own tg it c e, σ, h => if cf.hot then .st else (evSrc cf it σ h).bind fun p h =>
    (lcGo tg (wipeE σ own) (stays h p.1) (evT cf c) (evE cf e) p.2 [] h).bind fun xs h' => mkL b xs h'
  | .dc b own tg it c k e, σ, h => if cf.hot then .st else (evSrc cf it σ h).bind fun p h =>
    (dcGo tg (wipeE σ own) (stays h p.1) (evT cf c) (evE cf k) (evE cf e) p.2 [] [] h).bind (mkD b)
  | .isE i c, σ, h => match getX σ i with
    | some (x, _, _) => .ok (.bl (cf.sub x c)) h
    | none => .st
  | .isV i, σ, h => match getX σ i with
    | some (x, _, _) => .ok (.bl (cf.sve x)) h
    | none => .st
  | .atE i f, σ, h => match getX σ i with
    | some (_, ns, vs) => optV ((ns.zip vs).lookup f) h
    | none => .st
/- an expression as a test -/
noncomputable def evT (cf : Cf) : Ex → Env → Hb → R Bool
  | .cmp o a b, σ, h => (evE cf a σ h).bind fun x h => (evE cf b σ h).bind fun y h => (sem2 cf.m o x y h).bind fun k h =>
    match k with
    | .bl k => .ok k h
    | _ => .st
  | .cmp3 o p a b c, σ, h => (evE cf a σ h).bind fun x h => (evE cf b σ h).bind fun y h => (sem2 cf.m o x y h).bind fun k h =>
    match k with
    | .bl true => (evE cf c σ h).bind fun z h => (sem2 cf.m p y z h).bind fun k h =>
      match k with
      | .bl k => .ok k h
      | _ => .st
    | .bl false => .ok false h
    | _ => .st
  | .and a b, σ, h => (evT cf a σ h).bind fun k h => if k then evT cf b σ h else .ok false h
  | .or a b, σ, h => (evT cf a σ h).bind fun k h => if k then .ok true h else evT cf b σ h
  | .not a, σ, h => (evT cf a σ h).bind fun k h => .ok (!k) h
  | .ite t a b, σ, h => (evT cf t σ h).bind fun k h => if k then evT cf a σ h else evT cf b σ h
  | .var i, σ, h => match getV σ i with
    | some d => truthR d h
    | none => .st
  | .bl b, _, h => .ok b h
  | .op1 o a, σ, h => (evE cf a σ h).bind fun x h => (if cf.hot && calm1 o then .st else sem1 o x h).bind truthR
  | .op2 o a b, σ, h => (evE cf a σ h).bind fun x h => if recv o x h then (evE cf b σ h).bind fun y h => (if cf.hot && calm2 o then .st else sem2 cf.m o x y h).bind truthR else .st
  | .call f as, σ, h => (evAs cf as σ h).bind fun xs h => (cf.call cf.hot f xs h).bind truthR
  | .fld a f, σ, h => (evE cf a σ h).bind fun x h =>
    match insV h x with
    | some (_, ns, vs) => (optV ((ns.zip vs).lookup f) h).bind truthR
    | none => .st
  | .isE i c, σ, h => match getX σ i with
    | some (x, _, _) => .ok (cf.sub x c) h
    | none => .st
  | .isV i, σ, h => match getX σ i with
    | some (x, _, _) => .ok (cf.sve x) h
    | none => .st
  | _, _, _ => .st
noncomputable def evXs (cf : Cf) : Xs → Env → Hb → R (List D)
  | .nil, _, h => .ok [] h
  | .cons a r, σ, h => (evE cf a σ h).bind fun x h => (evXs cf r σ h).bind fun xs h => .ok (x :: xs) h
noncomputable def evAs (cf : Cf) : As → Env → Hb → R (List Sl)
  | .nil, _, h => .ok [] h
  | .ex a r, σ, h => (evE cf a σ h).bind fun x h => (evAs cf r σ h).bind fun xs h => .ok (.v x :: xs) h
  | .ec i r, σ, h => match getX σ i with
    | some (c, ns, vs) => (evAs cf r σ h).bind fun xs h => .ok (.x c ns vs :: xs) h
    | none => .st
/- what is walked: the value, its items -/
noncomputable def evSrc (cf : Cf) : Src → Env → Hb → R (D × List D)
  | .e a, σ, h => (evE cf a σ h).bind fun d h => match items h d with
    | some xs => .ok (d, xs) h
    | none => .st
  | .rng1 a, σ, h => (evE cf a σ h).bind fun d h => match d with
    | .int j => if inR j then .ok (.non, rngL 0 j.toNat) h else .st
    | _ => .st
  | .rng2 a b, σ, h => (evE cf a σ h).bind fun d h => (evE cf b σ h).bind fun e h => match d, e with
    | .int i, .int j => if inR i && inR j then .ok (.non, rngL i (j - i).toNat) h else .st
    | _, _ => .st
end

end FV

/-! Statements, loops, calls. -/
namespace FV
open PySem

def fromR {α : Type} (r : R α) (σ : Env) (f : α → Hb → Out) : Out :=
  match r with
  | .ok a h => f a h
  | .ex c ns vs h => .ex c ns vs σ h
  | .st => .st
@[simp] theorem fromR_ok {α : Type} (a : α) (h : Hb) (σ : Env) (f : α → Hb → Out) : fromR (.ok a h) σ f = f a h := rfl
@[simp] theorem fromR_ex {α : Type} (c : Nat) (ns : List Nat) (vs : List D) (h : Hb) (σ : Env) (f : α → Hb → Out) : fromR (R.ex c ns vs h : R α) σ f = .ex c ns vs σ h := rfl
@[simp] theorem fromR_st {α : Type} (σ : Env) (f : α → Hb → Out) : fromR (R.st : R α) σ f = .st := rfl
def Out.andThen (o : Out) (f : Env → Hb → Out) : Out :=
  match o with
  | .nx σ h => f σ h
  | o => o
@[simp] theorem Out.andThen_nx (σ : Env) (h : Hb) (f : Env → Hb → Out) : (Out.nx σ h).andThen f = f σ h := rfl
@[simp] theorem Out.andThen_rt (d : D) (h : Hb) (f : Env → Hb → Out) : (Out.rt d h).andThen f = .rt d h := rfl
@[simp] theorem Out.andThen_ex (c : Nat) (ns : List Nat) (vs : List D) (σ : Env) (h : Hb) (f : Env → Hb → Out) : (Out.ex c ns vs σ h).andThen f = .ex c ns vs σ h := rfl
@[simp] theorem Out.andThen_st (f : Env → Hb → Out) : Out.st.andThen f = .st := rfl

/-! ### while -/
def whlN (t : Env → Hb → R Bool) (b : Env → Hb → Out) : Nat → Env → Hb → Option Out
  | 0, _, _ => none
  | n + 1, σ, h => match t σ h with
    | .ok true h => match b σ h with
      | .nx σ' h' => whlN t b n σ' h'
      | o => some o
    | .ok false h => some (.nx σ h)
    | .ex c ns vs h => some (.ex c ns vs σ h)
    | .st => some .st
theorem whlN_mono {t : Env → Hb → R Bool} {b : Env → Hb → Out} : ∀ {n k : Nat} {σ : Env} {h : Hb} {o : Out}, n ≤ k → whlN t b n σ h = some o → whlN t b k σ h = some o := by
  intro n
  induction n with
  | zero => intro k σ h o _ e; cases e
  | succ n ih =>
    intro k σ h o hk e
    obtain ⟨k, rfl⟩ : ∃ j, k = j + 1 := ⟨k - 1, by omega⟩
    unfold whlN at e ⊢
    split at e
    · split at e
      · exact ih (by omega) e
      · exact e
    · exact e
    · exact e
    · exact e
open Classical in
noncomputable def whl (t : Env → Hb → R Bool) (b : Env → Hb → Out) (σ : Env) (h : Hb) : Out :=
  if H : ∃ o n, whlN t b n σ h = some o then H.choose else .st
theorem whl_of {t : Env → Hb → R Bool} {b : Env → Hb → Out} {σ : Env} {h : Hb} {n : Nat} {o : Out} (e : whlN t b n σ h = some o) : whl t b σ h = o := by
  have H : ∃ o n, whlN t b n σ h = some o := ⟨o, n, e⟩
  unfold whl
  rw [dif_pos H]
  obtain ⟨k, e'⟩ := H.choose_spec
  have a := whlN_mono (Nat.le_max_left n k) e
  have c := whlN_mono (Nat.le_max_right n k) e'
  rw [a] at c
  exact (Option.some.inj c).symm
/-- either it ends in n turns, or it is stuck -/
theorem whl_cases (t : Env → Hb → R Bool) (b : Env → Hb → Out) (σ : Env) (h : Hb) : (∃ n, whlN t b n σ h = some (whl t b σ h)) ∨ whl t b σ h = .st := by
  by_cases H : ∃ o n, whlN t b n σ h = some o
  · obtain ⟨o, n, e⟩ := H
    exact .inl ⟨n, by rw [whl_of e]; exact e⟩
  · exact .inr (by unfold whl; rw [dif_neg H])
theorem whl_eq (t : Env → Hb → R Bool) (b : Env → Hb → Out) (σ : Env) (h : Hb) : whl t b σ h =
    match t σ h with
    | .ok true h => (b σ h).andThen (whl t b)
    | .ok false h => .nx σ h
    | .ex c ns vs h => .ex c ns vs σ h
    | .st => .st := by
  cases ht : t σ h with
  | ok k h1 =>
    cases k with
    | true =>
      cases hb : b σ h1 with
      | nx σ2 h2 =>
        rcases whl_cases t b σ2 h2 with ⟨n, e⟩ | e
        · exact whl_of (n := n + 1) (by unfold whlN; simp only [ht, hb]; exact e)
        · simp only [hb, Out.andThen_nx]
          rw [e]
          rcases whl_cases t b σ h with ⟨n, e2⟩ | e2
          · cases n with
            | zero => cases e2
            | succ n =>
              unfold whlN at e2
              simp only [ht, hb] at e2
              rw [← whl_of e2, e]
          · exact e2
      | rt d h2 => exact whl_of (n := 1) (by unfold whlN; simp only [ht, hb]; rfl)
      | ex c ns vs σ2 h2 => exact whl_of (n := 1) (by unfold whlN; simp only [ht, hb]; rfl)
      | st => exact whl_of (n := 1) (by unfold whlN; simp only [ht, hb]; rfl)
    | false => exact whl_of (n := 1) (by unfold whlN; simp only [ht])
  | ex c ns vs h1 => exact whl_of (n := 1) (by unfold whlN; simp only [ht])
  | st => exact whl_of (n := 1) (by unfold whlN; simp only [ht])

/-! ### for -/
def forGo (tg : List Nat) (st : Hb → Bool) (b : Env → Hb → Out) : List D → Env → Hb → Out
  | [], σ, h => if st h then .nx σ h else .st
  | x :: r, σ, h =>
    if st h then
      match bindT h σ tg x with
      | none => .st
      | some σ' => (b σ' h).andThen (forGo tg st b r)
    else .st

/-! ### writes -/
def nix (k : Int) (n : Nat) : Int := if 0 ≤ k then k else k + n
def setiB (m : Nat) (h : Hb) (o i v : D) : Option Hb :=
  match o with
  | .box j => match bx h j with
    | some (.lst xs) => match i with
      | .int k =>
        if 0 ≤ nix k xs.length ∧ nix k xs.length < xs.length ∧ wrOk m j v = true then some (h.set j (some (.lst (xs.set (nix k xs.length).toNat v)))) else none
      | _ => none
    | some (.dic ks vs) => match keyD i with
      | some k => if ks.length < lineN ∧ wrOk m j v = true then some (h.set j (some (.dic (putD ks vs k v).1 (putD ks vs k v).2))) else none
      | none => none
    | _ => none
  | _ => none
def putF (ns : List Nat) (vs : List D) (f : Nat) (v : D) : List Nat × List D :=
  if f ∈ ns then (ns, (ns.zip vs).map fun p => if p.1 = f then v else p.2) else (ns ++ [f], vs ++ [v])
def setfB (m : Nat) (h : Hb) (o : D) (f : Nat) (v : D) : Option Hb :=
  match o with
  | .box j => match bx h j with
    | some (.ins c ns vs) => if ns.length < 900 ∧ wrOk m j v = true then some (h.set j (some (.ins c (putF ns vs f v).1 (putF ns vs f v).2))) else none
    | _ => none
  | _ => none

/-- no slot holds an exception -/
def noXE (σ : Env) : Bool := σ.all fun s => match s with
  | some (.x _ _ _) => false
  | _ => true
/- statements -/
mutual
noncomputable def evS (cf : Cf) : Sm → Env → Hb → Out
  | .expr e, σ, h => fromR (evE cf e σ h) σ fun _ h => .nx σ h
  | .set i e, σ, h => fromR (evE cf e σ h) σ fun d h => .nx (σ.set i (some (.v d))) h
  | .unp is e, σ, h => if cf.hot then .st else fromR (evE cf e σ h) σ fun d h => match bindT h σ is d with
    | some σ' => if 2 ≤ is.length then .nx σ' h else .st
    | none => .st
  | .seti o i v, σ, h => fromR (evE cf v σ h) σ fun x h => fromR (evE cf o σ h) σ fun od h => fromR (evE cf i σ h) σ fun id h =>
    match setiB cf.m h od id x with
    | some h' => .nx σ h'
    | none => .st
  | .setf o f v, σ, h => fromR (evE cf v σ h) σ fun x h => fromR (evE cf o σ h) σ fun od h =>
    match setfB cf.m h od f x with
    | some h' => .nx σ h'
    | none => .st
  | .ret e, σ, h => fromR (evE cf e σ h) σ fun d h => .rt d h
  | .raise c as, σ, h => if cf.hot then .st else fromR (evXs cf as σ h) σ fun xs h =>
    if (cf.exn c).2 = xs.length ∨ (cf.exn c).1 = [] then .ex c (cf.exn c).1 (if (cf.exn c).1 = [] then [] else xs) σ h else .st
  | .ite t a b, σ, h => fromR (evT cf t σ h) σ fun k h => if k then evSs cf a σ h else evSs cf b σ h
  | .whl t b, σ, h => whl (evT cf t) (evSs cf b) σ h
  | .for tg it b, σ, h => match cf.hot, it, tg with
    | true, .e _, _ => .st
    | true, .rng2 _ _, _ => .st
    | true, _, [] => .st
    | true, _, _ :: _ :: _ => .st
    | _, _, _ => fromR (evSrc cf it σ h) σ fun p h => forGo tg (stays h p.1) (evSs cf b) p.2 σ h
  | .tr b hs, σ, h => if cf.hot then .st else match evSs cf b σ h with
    | .ex c ns vs σ' h' => evH cf hs c ns vs σ' h'
    | o => o
  | .pass, σ, h => .nx σ h
noncomputable def evSs (cf : Cf) : Sms → Env → Hb → Out
  | .nil, σ, h => .nx σ h
  | .cons a r, σ, h => (evS cf a σ h).andThen (evSs cf r)
noncomputable def evH (cf : Cf) : Hs → Nat → List Nat → List D → Env → Hb → Out
  | .nil, c, ns, vs, σ, h => .ex c ns vs σ h
  | .cons c0 i b r, c, ns, vs, σ, h =>
    if cf.sub c c0 then
      match evSs { cf with hot := true } b (σ.set i (some (.x c ns vs))) h with
      | .nx σ' h' => if noXE (σ'.set i none) then .nx (σ'.set i none) h' else .st
      | .rt d h' => .rt d h'
      | _ => .st
    else evH cf r c ns vs σ h
end

/-! ### leaving a def -/
mutual
def fzD (g : Nat → Option D) : D → Option D
  | .box i => g i
  | .tup xs => (fzDs g xs).map .tup
  | .lst xs => (fzDs g xs).map .lst
  | .dic ks vs => (fzDs g vs).map (.dic ks)
  | .ins c ns vs => (fzDs g vs).map (.ins c ns)
  | .non => some .non
  | .bl b => some (.bl b)
  | .int i => some (.int i)
  | .str x => some (.str x)
  | .set ks => some (.set ks)
def fzDs (g : Nat → Option D) : List D → Option (List D)
  | [] => some []
  | d :: r => match fzD g d, fzDs g r with
    | some d', some r' => some (d' :: r')
    | _, _ => none
end
def fzB (m : Nat) (h : Hb) : Nat → Nat → Option D
  | 0, i => if i < m then some (.box i) else none
  | n + 1, i => if i < m then some (.box i) else match bx h i with
    | some (.lst xs) => (fzDs (fzB m h n) xs).map .lst
    | some (.dic ks vs) => (fzDs (fzB m h n) vs).map (.dic ks)
    | some (.ins c ns vs) => (fzDs (fzB m h n) vs).map (.ins c ns)
    | some (.set ks) => some (.set ks)
    | none => none
def fz (m : Nat) (h : Hb) (d : D) : Option D := fzD (fzB m h 6) d
def fzs (m : Nat) (h : Hb) (ds : List D) : Option (List D) := fzDs (fzB m h 6) ds
def exitF (keep : Bool) (m : Nat) (o : Out) : R D :=
  match o with
  | .nx _ h => if keep then .ok .non h else .ok .non (h.take m)
  | .rt d h => if keep then .ok d h else match fz m h d with
    | some d' => .ok d' (h.take m)
    | none => .st
  | .ex c ns vs _ h => if keep then (if belows m vs then .ex c ns vs h else .st) else match fzs m h vs with
    | some vs' => .ex c ns vs' (h.take m)
    | none => .st
  | .st => .st

structure Fn where
  np : Nat
  ns : Nat
  body : Sms
  keep : Bool := false
structure Tb where
  fn : Nat → Option Fn
  ini : Nat → Option Nat
  glo : Nat → Option D
  sub : Nat → Nat → Bool
  sve : Nat → Bool
  exn : Nat → List Nat × Nat
def startE (n : Nat) (xs : List Sl) : Env := xs.map some ++ List.replicate (n - xs.length) none
def noX : List Sl → Bool
  | [] => true
  | .v _ :: r => noX r
  | .x _ _ _ :: _ => false
abbrev Call := Bool → Nat → Nat → List Sl → Hb → R D
/-- C(..): a new object, then its __init__, then it stays as it is -/
def newV (T : Tb) (cl : Call) (c : Nat) (ys : List D) (h : Hb) : R D :=
  match T.ini c with
  | some g => match cl false h.length g (.v (.box h.length) :: ys.map .v) (h ++ [some (.ins c [] [])]) with
    | .ok .non h' => match fz h.length h' (.box h.length) with
      | some d => .ok d (h'.take h.length)
      | none => .st
    | .ex c ns vs h' => .ex c ns vs (h'.take h.length)
    | _ => .st
  | none => .st
def cfOf (T : Tb) (hot : Bool) (m : Nat) (c1 c2 : Call) : Cf :=
  { call := fun k => c1 k m, new := newV T c2, glo := T.glo, sub := T.sub, sve := T.sve, exn := T.exn, m := m, hot := hot }
def base (F : Fn) (mc : Nat) (h : Hb) : Nat := if F.keep then mc else h.length
noncomputable def runF (T : Tb) (c1 c2 : Call) : Call := fun hot mc f xs h =>
  match T.fn f with
  | none => .st
  | some F => if xs.length = F.np ∧ (hot = true ∨ noX xs = true) then exitF F.keep (base F mc h) (evSs (cfOf T hot (base F mc h) c1 c2) F.body (startE F.ns xs) h) else .st
noncomputable def lev (T : Tb) : Nat → Call × Call
  | 0 => (fun _ _ _ _ _ => .st, fun _ _ _ _ _ => .st)
  | n + 1 => (runF T (lev T n).1 (lev T n).2, (lev T n).1)
/-- a def at depth n -/
noncomputable def callN (T : Tb) (n : Nat) : Call := (lev T n).1
noncomputable def cfN (T : Tb) (n : Nat) (hot : Bool) (m : Nat) : Cf := cfOf T hot m (callN T n) (callN T (n - 1))
theorem lev_snd (T : Tb) (n : Nat) : (lev T n).2 = callN T (n - 1) := by
  cases n with
  | zero => rfl
  | succ n => rfl
theorem callN_eq (T : Tb) (n : Nat) (hot : Bool) (mc f : Nat) (xs : List Sl) (h : Hb) : callN T (n + 1) hot mc f xs h = match T.fn f with
    | none => .st
    | some F => if xs.length = F.np ∧ (hot = true ∨ noX xs = true) then exitF F.keep (base F mc h) (evSs (cfN T n hot (base F mc h)) F.body (startE F.ns xs) h) else .st := by
  show runF T (lev T n).1 (lev T n).2 hot mc f xs h = _
  rw [lev_snd]
  rfl
theorem callN_zero (T : Tb) (hot : Bool) (mc f : Nat) (xs : List Sl) (h : Hb) : callN T 0 hot mc f xs h = .st := rfl

end FV

/-! What a run leaves of the boxes below the base. -/
namespace FV
open PySem

/-- a box below m that was below k (k above it) is so still -/
def Hst (m : Nat) (h h' : Hb) : Prop := h.length ≤ h'.length ∧ ∀ i ob, i < m → bx h' i = some ob → ∀ k, i < k → (∀ o, bx h i = some o → belowO k o = true) → belowO k ob = true
theorem Hst.refl {m : Nat} {h : Hb} : Hst m h h := ⟨Nat.le_refl _, fun _ ob _ e _ _ f => f ob e⟩
theorem Hst.trans {m : Nat} {a b c : Hb} (x : Hst m a b) (y : Hst m b c) : Hst m a c :=
  ⟨Nat.le_trans x.1 y.1, fun i ob hi e k hk f => y.2 i ob hi e k hk fun o eo => x.2 i o hi eo k hk f⟩
theorem Hst.mono {m k : Nat} {a b : Hb} (x : Hst m a b) (h : k ≤ m) : Hst k a b := ⟨x.1, fun i ob hi e => x.2 i ob (by omega) e⟩
theorem bx_push_lt {h : Hb} {o : List (Option Ob)} {i : Nat} (hi : i < h.length) : bx (h ++ o) i = bx h i := by
  unfold bx
  rw [List.getElem?_append_left hi]
theorem bx_push {h : Hb} {o : Ob} : bx (h ++ [some o]) h.length = some o := by
  unfold bx
  simp
theorem bx_set {h : Hb} {i : Nat} {o : Ob} (hi : i < h.length) : bx (h.set i (some o)) i = some o := by
  unfold bx
  simp [List.getElem?_set_self hi]
theorem bx_set_ne {h : Hb} {i j : Nat} {o : Option Ob} (hi : i ≠ j) : bx (h.set i o) j = bx h j := by
  unfold bx
  rw [List.getElem?_set_ne hi]
theorem bx_lt {h : Hb} {i : Nat} {o : Ob} (e : bx h i = some o) : i < h.length := by
  unfold bx at e
  by_cases hi : i < h.length
  · exact hi
  · rw [List.getElem?_eq_none (by omega)] at e; cases e
theorem bx_take {h : Hb} {i m : Nat} (hi : i < m) : bx (h.take m) i = bx h i := by
  unfold bx
  rw [List.getElem?_take_of_lt hi]
theorem bx_take_ge {h : Hb} {i m : Nat} (hi : m ≤ i) : bx (h.take m) i = none := by
  unfold bx
  rw [List.getElem?_eq_none (by rw [List.length_take]; omega)]; rfl
theorem Hst.push {m : Nat} {h : Hb} {o : Ob} (hm : m ≤ h.length) : Hst m h (h ++ [some o]) :=
  ⟨by simp, fun i ob hi e k hk f => f ob (by rw [bx_push_lt (by omega)] at e; exact e)⟩
/-- box i, that holds o, is written -/
theorem Hst.write {m : Nat} {h : Hb} {i : Nat} {o o' : Ob} (ho : bx h i = some o) (hw : m ≤ i ∨ ∀ k, i < k → belowO k o = true → belowO k o' = true) : Hst m h (h.set i (some o')) :=
  ⟨by simp, fun j ob hj e k hk f => by
    by_cases hij : i = j
    · subst hij
      rw [bx_set (bx_lt ho)] at e
      cases e
      rcases hw with z | z
      · omega
      · exact z k hk (f o ho)
    · rw [bx_set_ne hij] at e; exact f ob e⟩

theorem belows_append {m : Nat} : ∀ {a b : List D}, belows m a = true → belows m b = true → belows m (a ++ b) = true
  | [], b, _, hb => hb
  | d :: r, b, ha, hb => by
    simp only [belows, List.cons_append, Bool.and_eq_true] at ha ⊢
    exact ⟨ha.1, belows_append ha.2 hb⟩
theorem belows_mem {m : Nat} : ∀ {a : List D}, belows m a = true ↔ ∀ d ∈ a, below m d = true
  | [] => by simp [belows]
  | d :: r => by
    simp only [belows, Bool.and_eq_true, List.mem_cons, forall_eq_or_imp]
    rw [belows_mem (a := r)]
mutual
theorem below_mono {m k : Nat} (h : m ≤ k) : ∀ d : D, below m d = true → below k d = true
  | .non, _ => rfl
  | .bl _, _ => rfl
  | .int _, _ => rfl
  | .str _, _ => rfl
  | .set _, _ => rfl
  | .tup xs, e => belows_mono h xs (by simpa [below] using e)
  | .lst xs, e => belows_mono h xs (by simpa [below] using e)
  | .dic _ vs, e => belows_mono h vs (by simpa [below] using e)
  | .ins _ _ vs, e => belows_mono h vs (by simpa [below] using e)
  | .box i, e => by simp [below] at e ⊢; omega
theorem belows_mono {m k : Nat} (h : m ≤ k) : ∀ d : List D, belows m d = true → belows k d = true
  | [], _ => rfl
  | d :: r, e => by
    simp only [belows, Bool.and_eq_true] at e ⊢
    exact ⟨below_mono h d e.1, belows_mono h r e.2⟩
end
theorem belowO_mono {m k : Nat} (h : m ≤ k) {o : Ob} (e : belowO m o = true) : belowO k o = true := by
  cases o with
  | lst xs => exact belows_mono h xs e
  | dic ks vs => exact belows_mono h vs e
  | set ks => rfl
  | ins c ns vs => exact belows_mono h vs e

def Low (m : Nat) (h : Hb) : Prop := ∀ i ob, i < m → bx h i = some ob → belowO m ob = true
theorem Low.step {m : Nat} {h h' : Hb} (l : Low m h) (s : Hst m h h') : Low m h' := fun i ob hi e => s.2 i ob hi e m hi fun o eo => l i o hi eo

def RSt {α : Type} (m : Nat) (h : Hb) (r : R α) : Prop :=
  match r with
  | .ok _ h' => Hst m h h'
  | .ex _ _ _ h' => Hst m h h'
  | .st => True
def OSt (m : Nat) (h : Hb) (o : Out) : Prop :=
  match o with
  | .nx _ h' => Hst m h h'
  | .rt _ h' => Hst m h h'
  | .ex _ _ _ _ h' => Hst m h h'
  | .st => True
theorem RSt.okI {α : Type} {m : Nat} {h : Hb} {a : α} : RSt m h (.ok a h) := Hst.refl
theorem RSt.len {α : Type} {m : Nat} {h h' : Hb} {a : α} (x : RSt m h (.ok a h')) (hm : m ≤ h.length) : m ≤ h'.length := Nat.le_trans hm x.1
theorem RSt.bind {α β : Type} {m : Nat} {h : Hb} {r : R α} {f : α → Hb → R β} (hm : m ≤ h.length) (a : RSt m h r) (b : ∀ x h1, m ≤ h1.length → RSt m h1 (f x h1)) : RSt m h (r.bind f) := by
  cases r with
  | ok x h1 =>
    have q := b x h1 (Nat.le_trans hm a.1)
    show RSt m h (f x h1)
    have a' : Hst m h h1 := a
    cases e : f x h1 with
    | ok y h2 => rw [e] at q; exact Hst.trans a' q
    | ex c ns vs h2 => rw [e] at q; exact Hst.trans a' q
    | st => trivial
  | ex c ns vs h1 => exact a
  | st => trivial
theorem RSt.from' {α : Type} {m : Nat} {h : Hb} {r : R α} {σ : Env} {f : α → Hb → Out} (hm : m ≤ h.length) (a : RSt m h r) (b : ∀ x h1, m ≤ h1.length → OSt m h1 (f x h1)) : OSt m h (fromR r σ f) := by
  cases r with
  | ok x h1 =>
    have q := b x h1 (Nat.le_trans hm a.1)
    show OSt m h (f x h1)
    have a' : Hst m h h1 := a
    cases e : f x h1 with
    | nx y h2 => rw [e] at q; exact Hst.trans a' q
    | rt y h2 => rw [e] at q; exact Hst.trans a' q
    | ex c ns vs σ h2 => rw [e] at q; exact Hst.trans a' q
    | st => trivial
  | ex c ns vs h1 => exact a
  | st => trivial
theorem OSt.andThen {m : Nat} {h : Hb} {o : Out} {f : Env → Hb → Out} (hm : m ≤ h.length) (a : OSt m h o) (b : ∀ σ h1, m ≤ h1.length → OSt m h1 (f σ h1)) : OSt m h (o.andThen f) := by
  cases o with
  | nx σ h1 =>
    have q := b σ h1 (Nat.le_trans hm a.1)
    show OSt m h (f σ h1)
    have a' : Hst m h h1 := a
    cases e : f σ h1 with
    | nx y h2 => rw [e] at q; exact Hst.trans a' q
    | rt y h2 => rw [e] at q; exact Hst.trans a' q
    | ex c ns vs σ h2 => rw [e] at q; exact Hst.trans a' q
    | st => trivial
  | rt d h1 => exact a
  | ex c ns vs σ h1 => exact a
  | st => trivial

theorem mkL_st {m : Nat} {b : Bool} {xs : List D} {h : Hb} (hm : m ≤ h.length) : RSt m h (mkL b xs h) := by
  unfold mkL
  cases b with
  | true => exact Hst.push hm
  | false => exact Hst.refl
theorem belows_dropLast {m : Nat} {xs : List D} (h : belows m xs = true) : belows m xs.dropLast = true :=
  belows_mem.mpr fun d hd => belows_mem.mp h d (List.dropLast_subset xs hd)
theorem belows_key (m : Nat) (ks : List Kk) : belows m (ks.map dKey) = true := belows_mem.mpr fun d hd => by
  obtain ⟨k, _, rfl⟩ := List.mem_map.mp hd
  cases k <;> rfl
theorem optV_st {m : Nat} {o : Option D} {h : Hb} : RSt m h (optV o h) := by
  cases o with
  | none => trivial
  | some d => exact Hst.refl
theorem optB_st {m : Nat} {o : Option Bool} {h : Hb} : RSt m h (optB o h) := by
  cases o with
  | none => trivial
  | some d => exact Hst.refl
theorem wr_ok {m i : Nat} {d : D} (h : wrOk m i d = true) : m ≤ i ∨ ∀ k, i < k → below k d = true := by
  unfold wrOk at h
  rw [Bool.or_eq_true, decide_eq_true_eq] at h
  rcases h with h | h
  · exact .inl h
  · exact .inr fun k hk => below_mono (Nat.le_of_lt hk) d h
theorem belows_put {m : Nat} {κ : Type} [DecidableEq κ] {k : κ} {v : D} (hv : below m v = true) : ∀ (ks : List κ) (vs : List D), belows m vs = true → belows m ((ks.zip vs).map fun p => if p.1 = k then v else p.2) = true
  | [], _, _ => rfl
  | _ :: _, [], _ => rfl
  | a :: ks, b :: vs, h => by
    simp only [belows, Bool.and_eq_true] at h
    simp only [List.zip_cons_cons, List.map_cons, belows, Bool.and_eq_true]
    refine ⟨?_, belows_put hv ks vs h.2⟩
    split
    · exact hv
    · exact h.1
theorem belows_set {m : Nat} {xs : List D} {n : Nat} {v : D} (hv : below m v = true) (h : belows m xs = true) : belows m (xs.set n v) = true :=
  belows_mem.mpr fun d hd => by
    rcases List.mem_or_eq_of_mem_set hd with z | z
    · exact belows_mem.mp h d z
    · rw [z]; exact hv
theorem putD_below {m : Nat} {ks : List Kk} {vs : List D} {k : Kk} {v : D} (hv : below m v = true) (h : belows m vs = true) : belows m (putD ks vs k v).2 = true := by
  unfold putD
  split
  · exact belows_put hv ks vs h
  · exact belows_append h (by simp [belows, hv])
theorem putF_below {m : Nat} {ks : List Nat} {vs : List D} {k : Nat} {v : D} (hv : below m v = true) (h : belows m vs = true) : belows m (putF ks vs k v).2 = true := by
  unfold putF
  split
  · exact belows_put hv ks vs h
  · exact belows_append h (by simp [belows, hv])
theorem sem1_st {m : Nat} {o : O1} {a : D} {h : Hb} (hm : m ≤ h.length) : RSt m h (sem1 o a h) := by
  cases o with
  | list b =>
    simp only [sem1]
    repeat' split
    all_goals first | exact mkL_st hm | trivial
  | lkeys b =>
    simp only [sem1]
    split
    · exact mkL_st hm
    · trivial
  | pop =>
    simp only [sem1, popB]
    repeat' split
    all_goals first | trivial | skip
    exact Hst.write (o := .lst _) (by assumption) (.inr fun k _ hk => belows_dropLast hk)
  | _ =>
    simp only [sem1]
    repeat' split
    all_goals first | exact Hst.refl | trivial
theorem sem2_st {m : Nat} {o : O2} {a b : D} {h : Hb} : RSt m h (sem2 m o a b h) := by
  cases o with
  | append =>
    simp only [sem2, appB]
    repeat' split
    all_goals first | trivial | skip
    rename_i q
    refine Hst.write (o := .lst _) (by assumption) ?_
    rcases wr_ok q.2 with z | z
    · exact .inl z
    · exact .inr fun k hk hb => belows_append hb (by simp [belows, z k hk])
  | sadd =>
    simp only [sem2, saddB]
    repeat' split
    all_goals first | trivial | skip
    all_goals exact Hst.write (o := .set _) (by assumption) (.inr fun k _ _ => rfl)
  | eq => exact optB_st
  | ne => exact optB_st
  | inn => exact optB_st
  | notin => exact optB_st
  | isA => exact optB_st
  | isnot => exact optB_st
  | _ =>
    simp only [sem2, ixD, cmpI, slice, arith]
    repeat' split
    all_goals first | exact Hst.refl | trivial
theorem sem3_st {m : Nat} {o : O3} {a b c : D} {h : Hb} : RSt m h (sem3 o a b c h) := by
  unfold sem3 slice
  repeat' split
  all_goals first | exact Hst.refl | trivial
theorem truthR_st {m : Nat} {d : D} {h : Hb} : RSt m h (truthR d h) := by
  unfold truthR
  split
  · exact Hst.refl
  · trivial
theorem setiB_st {m : Nat} {h h' : Hb} {o i v : D} (e : setiB m h o i v = some h') : Hst m h h' := by
  unfold setiB at e
  repeat' split at e
  all_goals first | cases e; done | skip
  · rename_i q
    obtain rfl := Option.some.inj e
    refine Hst.write (o := .lst _) (by assumption) ?_
    rcases wr_ok q.2.2 with z | z
    · exact .inl z
    · exact .inr fun k hk hb => belows_set (z k hk) hb
  · rename_i _ _ _ _ _ q
    obtain rfl := Option.some.inj e
    refine Hst.write (o := .dic _ _) (by assumption) ?_
    rcases wr_ok q.2 with z | z
    · exact .inl z
    · exact .inr fun k hk hb => putD_below (z k hk) hb
theorem setfB_st {m : Nat} {h h' : Hb} {o v : D} {f : Nat} (e : setfB m h o f v = some h') : Hst m h h' := by
  unfold setfB at e
  repeat' split at e
  all_goals first | cases e; done | skip
  rename_i q
  obtain rfl := Option.some.inj e
  refine Hst.write (o := .ins _ _ _) (by assumption) ?_
  rcases wr_ok q.2 with z | z
  · exact .inl z
  · exact .inr fun k hk hb => putF_below (z k hk) hb

/-- what calls and classes keep -/
structure CfOk (cf : Cf) : Prop where
  call : ∀ k f xs h, cf.m ≤ h.length → RSt cf.m h (cf.call k f xs h)
  new : ∀ c xs h, cf.m ≤ h.length → RSt cf.m h (cf.new c xs h)

theorem RSt.nox {α : Type} {m : Nat} {h : Hb} {r : R α} (x : RSt m h r) : RSt m h r.nox := by
  cases r with
  | ok a h' => exact x
  | ex c ns vs h' => trivial
  | st => trivial
theorem lcGo_st {m : Nat} {tg : List Nat} {σ : Env} {st : Hb → Bool} {c : Env → Hb → R Bool} {e : Env → Hb → R D}
    (hc : ∀ σ h, m ≤ h.length → RSt m h (c σ h)) (he : ∀ σ h, m ≤ h.length → RSt m h (e σ h)) :
    ∀ (xs acc : List D) (h : Hb), m ≤ h.length → RSt m h (lcGo tg σ st c e xs acc h)
  | [], acc, h, _ => by
    unfold lcGo
    split
    · exact Hst.refl
    · trivial
  | x :: r, acc, h, hm => by
    unfold lcGo
    split
    · split
      · trivial
      · refine RSt.bind hm (hc _ _ hm).nox fun b h1 hm1 => ?_
        · split
          · refine RSt.bind hm1 (he _ _ hm1).nox fun y h2 hm2 => ?_
            split
            · exact lcGo_st hc he r _ h2 hm2
            · trivial
          · exact lcGo_st hc he r _ h1 hm1
    · trivial
theorem dcGo_st {m : Nat} {tg : List Nat} {σ : Env} {st : Hb → Bool} {c : Env → Hb → R Bool} {k e : Env → Hb → R D}
    (hc : ∀ σ h, m ≤ h.length → RSt m h (c σ h)) (hk : ∀ σ h, m ≤ h.length → RSt m h (k σ h)) (he : ∀ σ h, m ≤ h.length → RSt m h (e σ h)) :
    ∀ (xs : List D) (ks : List Kk) (vs : List D) (h : Hb), m ≤ h.length → RSt m h (dcGo tg σ st c k e xs ks vs h)
  | [], ks, vs, h, _ => by
    unfold dcGo
    split
    · exact Hst.refl
    · trivial
  | x :: r, ks, vs, h, hm => by
    unfold dcGo
    split
    · split
      · trivial
      · refine RSt.bind hm (hc _ _ hm).nox fun b h1 hm1 => ?_
        · split
          · refine RSt.bind hm1 (hk _ _ hm1).nox fun y h2 hm2 => RSt.bind hm2 (he _ _ hm2).nox fun z h3 hm3 => ?_
            split
            · split
              · exact dcGo_st hc hk he r _ _ h3 hm3
              · trivial
            · trivial
          · exact dcGo_st hc hk he r _ _ h1 hm1
    · trivial
theorem forGo_st {m : Nat} {tg : List Nat} {st : Hb → Bool} {b : Env → Hb → Out} (hb : ∀ σ h, m ≤ h.length → OSt m h (b σ h)) :
    ∀ (xs : List D) (σ : Env) (h : Hb), m ≤ h.length → OSt m h (forGo tg st b xs σ h)
  | [], σ, h, _ => by
    unfold forGo
    split
    · exact Hst.refl
    · trivial
  | x :: r, σ, h, hm => by
    unfold forGo
    split
    · split
      · trivial
      · exact OSt.andThen hm (hb _ _ hm) fun σ2 h2 hm2 => forGo_st hb r σ2 h2 hm2
    · trivial
theorem whlN_st {m : Nat} {t : Env → Hb → R Bool} {b : Env → Hb → Out} (ht : ∀ σ h, m ≤ h.length → RSt m h (t σ h)) (hb : ∀ σ h, m ≤ h.length → OSt m h (b σ h)) :
    ∀ (n : Nat) (σ : Env) (h : Hb) (o : Out), m ≤ h.length → whlN t b n σ h = some o → OSt m h o
  | 0, _, _, _, _, e => by cases e
  | n + 1, σ, h, o, hm, e => by
    have q := ht σ h hm
    unfold whlN at e
    split at e
    · rename_i h1 e1
      rw [e1] at q
      have q1 : Hst m h h1 := q
      have r := hb σ h1 (Nat.le_trans hm q1.1)
      split at e
      · rename_i σ2 h2 e2
        rw [e2] at r
        have r1 : Hst m h1 h2 := r
        have z := whlN_st ht hb n σ2 h2 o (Nat.le_trans hm (Nat.le_trans q1.1 r1.1)) e
        have w := q1.trans r1
        cases o with
        | nx y h2 => exact Hst.trans w z
        | rt y h2 => exact Hst.trans w z
        | ex c ns vs σ h2 => exact Hst.trans w z
        | st => trivial
      · obtain rfl := Option.some.inj e
        cases e2 : b σ h1 with
        | nx y h2 => rw [e2] at r; exact Hst.trans q1 r
        | rt y h2 => rw [e2] at r; exact Hst.trans q1 r
        | ex c ns vs σ h2 => rw [e2] at r; exact Hst.trans q1 r
        | st => trivial
    · rename_i h1 e1
      rw [e1] at q
      obtain rfl := Option.some.inj e
      exact q
    · rename_i e1
      rw [e1] at q
      obtain rfl := Option.some.inj e
      exact q
    · obtain rfl := Option.some.inj e
      trivial
theorem whl_st {m : Nat} {t : Env → Hb → R Bool} {b : Env → Hb → Out} (ht : ∀ σ h, m ≤ h.length → RSt m h (t σ h)) (hb : ∀ σ h, m ≤ h.length → OSt m h (b σ h)) (σ : Env) (h : Hb) (hm : m ≤ h.length) : OSt m h (whl t b σ h) := by
  rcases whl_cases t b σ h with ⟨n, e⟩ | e
  · exact whlN_st ht hb n σ h _ hm e
  · rw [e]; trivial

mutual
theorem evE_st {cf : Cf} (ok : CfOk cf) : ∀ (e : Ex) (σ : Env) (h : Hb), cf.m ≤ h.length → RSt cf.m h (evE cf e σ h)
  | .var i, σ, h, _ => by simp only [evE]; exact optV_st
  | .non, σ, h, _ => by simp only [evE]; exact Hst.refl
  | .bl b, σ, h, _ => by simp only [evE]; exact Hst.refl
  | .int i, σ, h, _ => by simp only [evE]; exact Hst.refl
  | .str x, σ, h, _ => by simp only [evE]; exact Hst.refl
  | .glo g, σ, h, _ => by simp only [evE]; exact optV_st
  | .op1 o a, σ, h, hm => by
    simp only [evE]
    refine RSt.bind hm (evE_st ok a σ h hm) fun x h1 m1 => ?_
    split
    · trivial
    · exact sem1_st m1
  | .op2 o a b, σ, h, hm => by
    simp only [evE]
    refine RSt.bind hm (evE_st ok a σ h hm) fun x h1 m1 => ?_
    split
    · refine RSt.bind m1 (evE_st ok b σ h1 m1) fun y h2 m2 => ?_
      split
      · trivial
      · exact sem2_st
    · trivial
  | .op3 o a b c, σ, h, hm => by
    simp only [evE]
    refine RSt.bind hm (evE_st ok a σ h hm) fun x h1 m1 => RSt.bind m1 (evE_st ok b σ h1 m1) fun y h2 m2 => ?_
    split
    · exact RSt.bind m2 (evE_st ok c σ h2 m2) fun z h3 m3 => sem3_st
    · trivial
  | .cmp o a b, σ, h, hm => by simp only [evE]; exact RSt.bind hm (evE_st ok a σ h hm) fun x h1 m1 => RSt.bind m1 (evE_st ok b σ h1 m1) fun y h2 m2 => sem2_st
  | .cmp3 o p a b c, σ, h, hm => by
    simp only [evE]
    refine RSt.bind hm (evE_st ok a σ h hm) fun x h1 m1 => RSt.bind m1 (evE_st ok b σ h1 m1) fun y h2 m2 => RSt.bind m2 sem2_st fun k h3 m3 => ?_
    split
    · exact RSt.bind m3 (evE_st ok c σ h3 m3) fun z h4 m4 => sem2_st
    · exact Hst.refl
    · trivial
  | .and a b, σ, h, hm => by
    simp only [evE]
    refine RSt.bind hm (evE_st ok a σ h hm) fun x h1 m1 => ?_
    split
    · exact evE_st ok b σ h1 m1
    · exact Hst.refl
    · trivial
  | .or a b, σ, h, hm => by
    simp only [evE]
    refine RSt.bind hm (evE_st ok a σ h hm) fun x h1 m1 => ?_
    split
    · exact Hst.refl
    · exact evE_st ok b σ h1 m1
    · trivial
  | .not a, σ, h, hm => by
    simp only [evE]
    refine RSt.bind hm (evE_st ok a σ h hm) fun x h1 m1 => ?_
    split
    · exact Hst.refl
    · trivial
  | .ite t a b, σ, h, hm => by
    simp only [evE]
    refine RSt.bind hm (evT_st ok t σ h hm) fun x h1 m1 => ?_
    split
    · exact evE_st ok a σ h1 m1
    · exact evE_st ok b σ h1 m1
  | .tup as, σ, h, hm => by
    simp only [evE]
    refine RSt.bind hm (evXs_st ok as σ h hm) fun x h1 m1 => ?_
    split
    · exact Hst.refl
    · trivial
  | .lst b as, σ, h, hm => by
    simp only [evE]
    refine RSt.bind hm (evXs_st ok as σ h hm) fun x h1 m1 => ?_
    split
    · exact mkL_st m1
    · trivial
  | .dct0 b, σ, h, hm => by
    simp only [evE]
    split
    · exact Hst.push hm
    · exact Hst.refl
  | .set0 b, σ, h, hm => by
    simp only [evE]
    split
    · exact Hst.push hm
    · exact Hst.refl
  | .call f as, σ, h, hm => by simp only [evE]; exact RSt.bind hm (evAs_st ok as σ h hm) fun x h1 m1 => ok.call _ _ _ _ m1
  | .new f as, σ, h, hm => by
    simp only [evE]
    refine RSt.bind hm (evXs_st ok as σ h hm) fun x h1 m1 => ?_
    split
    · trivial
    · exact ok.new _ _ _ m1
  | .fld a f, σ, h, hm => by
    simp only [evE]
    refine RSt.bind hm (evE_st ok a σ h hm) fun x h1 m1 => ?_
    split
    · exact optV_st
    · trivial
  | .lc b own tg it c e, σ, h, hm => by
    simp only [evE]
    split
    · trivial
    · refine RSt.bind hm (evSrc_st ok it σ h hm) fun p h1 m1 => RSt.bind m1 (lcGo_st (fun σ h hh => evT_st ok c σ h hh) (fun σ h hh => evE_st ok e σ h hh) p.2 [] h1 m1) fun xs h2 m2 => mkL_st m2
  | .dc b own tg it c k e, σ, h, hm => by
    simp only [evE]
    split
    · trivial
    · refine RSt.bind hm (evSrc_st ok it σ h hm) fun p h1 m1 => RSt.bind m1 (dcGo_st (fun σ h hh => evT_st ok c σ h hh) (fun σ h hh => evE_st ok k σ h hh) (fun σ h hh => evE_st ok e σ h hh) p.2 [] [] h1 m1) fun xs h2 m2 => ?_
      unfold mkD; split
      · exact Hst.push m2
      · exact Hst.refl
  | .isE i c, σ, h, _ => by
    simp only [evE]
    split
    · exact Hst.refl
    · trivial
  | .isV i, σ, h, _ => by
    simp only [evE]
    split
    · exact Hst.refl
    · trivial
  | .atE i f, σ, h, _ => by
    simp only [evE]
    split
    · exact optV_st
    · trivial
theorem evT_st {cf : Cf} (ok : CfOk cf) : ∀ (e : Ex) (σ : Env) (h : Hb), cf.m ≤ h.length → RSt cf.m h (evT cf e σ h)
  | .cmp o a b, σ, h, hm => by
    simp only [evT]
    refine RSt.bind hm (evE_st ok a σ h hm) fun x h1 m1 => RSt.bind m1 (evE_st ok b σ h1 m1) fun y h2 m2 => RSt.bind m2 sem2_st fun k h3 m3 => ?_
    split
    · exact Hst.refl
    · trivial
  | .cmp3 o p a b c, σ, h, hm => by
    simp only [evT]
    refine RSt.bind hm (evE_st ok a σ h hm) fun x h1 m1 => RSt.bind m1 (evE_st ok b σ h1 m1) fun y h2 m2 => RSt.bind m2 sem2_st fun k h3 m3 => ?_
    split
    · refine RSt.bind m3 (evE_st ok c σ h3 m3) fun z h4 m4 => RSt.bind m4 sem2_st fun k h5 m5 => ?_
      split
      · exact Hst.refl
      · trivial
    · exact Hst.refl
    · trivial
  | .and a b, σ, h, hm => by
    simp only [evT]
    refine RSt.bind hm (evT_st ok a σ h hm) fun x h1 m1 => ?_
    split
    · exact evT_st ok b σ h1 m1
    · exact Hst.refl
  | .or a b, σ, h, hm => by
    simp only [evT]
    refine RSt.bind hm (evT_st ok a σ h hm) fun x h1 m1 => ?_
    split
    · exact Hst.refl
    · exact evT_st ok b σ h1 m1
  | .not a, σ, h, hm => by simp only [evT]; exact RSt.bind hm (evT_st ok a σ h hm) fun x h1 m1 => Hst.refl
  | .ite t a b, σ, h, hm => by
    simp only [evT]
    refine RSt.bind hm (evT_st ok t σ h hm) fun x h1 m1 => ?_
    split
    · exact evT_st ok a σ h1 m1
    · exact evT_st ok b σ h1 m1
  | .var i, σ, h, hm => by
    simp only [evT]
    split
    · exact truthR_st
    · trivial
  | .bl b, σ, h, hm => by simp only [evT]; exact Hst.refl
  | .op1 o a, σ, h, hm => by
    simp only [evT]
    refine RSt.bind hm (evE_st ok a σ h hm) fun x h1 m1 => RSt.bind m1 ?_ fun y h2 m2 => truthR_st
    split
    · trivial
    · exact sem1_st m1
  | .op2 o a b, σ, h, hm => by
    simp only [evT]
    refine RSt.bind hm (evE_st ok a σ h hm) fun x h1 m1 => ?_
    split
    · refine RSt.bind m1 (evE_st ok b σ h1 m1) fun y h2 m2 => RSt.bind m2 ?_ fun z h3 m3 => truthR_st
      split
      · trivial
      · exact sem2_st
    · trivial
  | .call f as, σ, h, hm => by simp only [evT]; exact RSt.bind hm (evAs_st ok as σ h hm) fun x h1 m1 => RSt.bind m1 (ok.call _ _ _ _ m1) fun y h2 m2 => truthR_st
  | .fld a f, σ, h, hm => by
    simp only [evT]
    refine RSt.bind hm (evE_st ok a σ h hm) fun x h1 m1 => ?_
    split
    · exact RSt.bind m1 optV_st fun y h2 m2 => truthR_st
    · trivial
  | .isE i c, σ, h, _ => by
    simp only [evT]
    split
    · exact Hst.refl
    · trivial
  | .isV i, σ, h, _ => by
    simp only [evT]
    split
    · exact Hst.refl
    · trivial
  | .non, σ, h, _ => by simp only [evT]; trivial
  | .int _, σ, h, _ => by simp only [evT]; trivial
  | .str _, σ, h, _ => by simp only [evT]; trivial
  | .glo _, σ, h, _ => by simp only [evT]; trivial
  | .op3 _ _ _ _, σ, h, _ => by simp only [evT]; trivial
  | .tup _, σ, h, _ => by simp only [evT]; trivial
  | .lst _ _, σ, h, _ => by simp only [evT]; trivial
  | .dct0 _, σ, h, _ => by simp only [evT]; trivial
  | .set0 _, σ, h, _ => by simp only [evT]; trivial
  | .new _ _, σ, h, _ => by simp only [evT]; trivial
  | .lc _ _ _ _ _ _, σ, h, _ => by simp only [evT]; trivial
  | .dc _ _ _ _ _ _ _, σ, h, _ => by simp only [evT]; trivial
  | .atE _ _, σ, h, _ => by simp only [evT]; trivial
theorem evXs_st {cf : Cf} (ok : CfOk cf) : ∀ (e : Xs) (σ : Env) (h : Hb), cf.m ≤ h.length → RSt cf.m h (evXs cf e σ h)
  | .nil, σ, h, _ => by simp only [evXs]; exact Hst.refl
  | .cons a r, σ, h, hm => by simp only [evXs]; exact RSt.bind hm (evE_st ok a σ h hm) fun x h1 m1 => RSt.bind m1 (evXs_st ok r σ h1 m1) fun y h2 m2 => Hst.refl
theorem evAs_st {cf : Cf} (ok : CfOk cf) : ∀ (e : As) (σ : Env) (h : Hb), cf.m ≤ h.length → RSt cf.m h (evAs cf e σ h)
  | .nil, σ, h, _ => by simp only [evAs]; exact Hst.refl
  | .ex a r, σ, h, hm => by simp only [evAs]; exact RSt.bind hm (evE_st ok a σ h hm) fun x h1 m1 => RSt.bind m1 (evAs_st ok r σ h1 m1) fun y h2 m2 => Hst.refl
  | .ec i r, σ, h, hm => by
    simp only [evAs]
    split
    · exact RSt.bind hm (evAs_st ok r σ h hm) fun y h2 m2 => Hst.refl
    · trivial
theorem evSrc_st {cf : Cf} (ok : CfOk cf) : ∀ (e : Src) (σ : Env) (h : Hb), cf.m ≤ h.length → RSt cf.m h (evSrc cf e σ h)
  | .e a, σ, h, hm => by
    simp only [evSrc]
    refine RSt.bind hm (evE_st ok a σ h hm) fun x h1 m1 => ?_
    split
    · exact Hst.refl
    · trivial
  | .rng1 a, σ, h, hm => by
    simp only [evSrc]
    refine RSt.bind hm (evE_st ok a σ h hm) fun x h1 m1 => ?_
    repeat' split
    all_goals first | exact Hst.refl | trivial
  | .rng2 a b, σ, h, hm => by
    simp only [evSrc]
    refine RSt.bind hm (evE_st ok a σ h hm) fun x h1 m1 => RSt.bind m1 (evE_st ok b σ h1 m1) fun y h2 m2 => ?_
    repeat' split
    all_goals first | exact Hst.refl | trivial
end

end FV

namespace FV
open PySem

mutual
theorem evS_st : ∀ (e : Sm) (cf : Cf) (_ : CfOk cf) (σ : Env) (h : Hb), cf.m ≤ h.length → OSt cf.m h (evS cf e σ h)
  | .expr e, cf, ok, σ, h, hm => by simp only [evS]; exact RSt.from' hm (evE_st ok e σ h hm) fun x h1 m1 => Hst.refl
  | .set i e, cf, ok, σ, h, hm => by simp only [evS]; exact RSt.from' hm (evE_st ok e σ h hm) fun x h1 m1 => Hst.refl
  | .unp is e, cf, ok, σ, h, hm => by
    simp only [evS]
    split
    · trivial
    refine RSt.from' hm (evE_st ok e σ h hm) fun x h1 m1 => ?_
    repeat' split
    all_goals first | exact Hst.refl | trivial
  | .seti o i v, cf, ok, σ, h, hm => by
    simp only [evS]
    refine RSt.from' hm (evE_st ok v σ h hm) fun x h1 m1 => RSt.from' m1 (evE_st ok o σ h1 m1) fun y h2 m2 => RSt.from' m2 (evE_st ok i σ h2 m2) fun z h3 m3 => ?_
    split
    · rename_i q; exact setiB_st q
    · trivial
  | .setf o f v, cf, ok, σ, h, hm => by
    simp only [evS]
    refine RSt.from' hm (evE_st ok v σ h hm) fun x h1 m1 => RSt.from' m1 (evE_st ok o σ h1 m1) fun y h2 m2 => ?_
    split
    · rename_i q; exact setfB_st q
    · trivial
  | .ret e, cf, ok, σ, h, hm => by simp only [evS]; exact RSt.from' hm (evE_st ok e σ h hm) fun x h1 m1 => Hst.refl
  | .raise c as, cf, ok, σ, h, hm => by
    simp only [evS]
    split
    · trivial
    · refine RSt.from' hm (evXs_st ok as σ h hm) fun x h1 m1 => ?_
      split
      · exact Hst.refl
      · trivial
  | .ite t a b, cf, ok, σ, h, hm => by
    simp only [evS]
    refine RSt.from' hm (evT_st ok t σ h hm) fun x h1 m1 => ?_
    split
    · exact evSs_st a cf ok σ h1 m1
    · exact evSs_st b cf ok σ h1 m1
  | .whl t b, cf, ok, σ, h, hm => by simp only [evS]; exact whl_st (fun σ h hh => evT_st ok t σ h hh) (fun σ h hh => evSs_st b cf ok σ h hh) σ h hm
  | .for tg it b, cf, ok, σ, h, hm => by
    simp only [evS]
    split
    · trivial
    · trivial
    · trivial
    · trivial
    · exact RSt.from' hm (evSrc_st ok _ σ h hm) fun p h1 m1 => forGo_st (fun σ h hh => evSs_st b cf ok σ h hh) p.2 σ h1 m1
  | .tr b hs, cf, ok, σ, h, hm => by
    simp only [evS]
    split
    · trivial
    · have q := evSs_st b cf ok σ h hm
      cases e : evSs cf b σ h with
      | ex c ns vs σ2 h2 =>
        rw [e] at q
        have q' : Hst cf.m h h2 := q
        have r := evH_st hs cf ok c ns vs σ2 h2 (Nat.le_trans hm q'.1)
        show OSt cf.m h (evH cf hs c ns vs σ2 h2)
        cases e2 : evH cf hs c ns vs σ2 h2 with
        | nx y h3 => rw [e2] at r; exact Hst.trans q' r
        | rt y h3 => rw [e2] at r; exact Hst.trans q' r
        | ex c ns vs σ h3 => rw [e2] at r; exact Hst.trans q' r
        | st => trivial
      | nx σ2 h2 => rw [e] at q; exact q
      | rt σ2 h2 => rw [e] at q; exact q
      | st => trivial
  | .pass, cf, ok, σ, h, hm => by simp only [evS]; exact Hst.refl
theorem evSs_st : ∀ (e : Sms) (cf : Cf) (_ : CfOk cf) (σ : Env) (h : Hb), cf.m ≤ h.length → OSt cf.m h (evSs cf e σ h)
  | .nil, cf, ok, σ, h, hm => by simp only [evSs]; exact Hst.refl
  | .cons a r, cf, ok, σ, h, hm => by simp only [evSs]; exact OSt.andThen hm (evS_st a cf ok σ h hm) fun σ2 h2 m2 => evSs_st r cf ok σ2 h2 m2
theorem evH_st : ∀ (e : Hs) (cf : Cf) (_ : CfOk cf) (c : Nat) (ns : List Nat) (vs : List D) (σ : Env) (h : Hb), cf.m ≤ h.length → OSt cf.m h (evH cf e c ns vs σ h)
  | .nil, cf, ok, c, ns, vs, σ, h, hm => by simp only [evH]; exact Hst.refl
  | .cons c0 i b r, cf, ok, c, ns, vs, σ, h, hm => by
    simp only [evH]
    split
    · have q := evSs_st b { cf with hot := true } ⟨ok.call, ok.new⟩ (σ.set i (some (.x c ns vs))) h hm
      split
      · rename_i e
        rw [e] at q
        split
        · exact q
        · trivial
      · rename_i e; rw [e] at q; exact q
      · trivial
    · exact evH_st r cf ok c ns vs σ h hm
end

theorem Hst.take {mc m : Nat} {h h' : Hb} (x : Hst m h h') (hm : m = h.length) (hc : mc ≤ m) : Hst mc h (h'.take m) := by
  refine ⟨by rw [List.length_take]; have := x.1; omega, fun i ob hi e k hk f => ?_⟩
  rw [bx_take (by omega)] at e
  exact x.2 i ob (by omega) e k hk f
theorem exitF_st {keep : Bool} {mc : Nat} {h : Hb} {o : Out} (hc : mc ≤ h.length) (x : OSt (if keep then mc else h.length) h o) : RSt mc h (exitF keep (if keep then mc else h.length) o) := by
  cases keep with
  | true =>
    simp only [if_true] at x ⊢
    cases o with
    | nx σ h' => exact x
    | rt d h' => exact x
    | ex c ns vs σ h' =>
      simp only [exitF, if_true]
      split
      · exact x
      · trivial
    | st => trivial
  | false =>
    simp only [Bool.false_eq_true, if_false] at x ⊢
    cases o with
    | nx σ h' => exact Hst.take x rfl hc
    | rt d h' =>
      simp only [exitF, Bool.false_eq_true, if_false]
      split
      · exact Hst.take x rfl hc
      · trivial
    | ex c ns vs σ h' =>
      simp only [exitF, Bool.false_eq_true, if_false]
      split
      · exact Hst.take x rfl hc
      · trivial
    | st => trivial
theorem newV_st {T : Tb} {cl : Call} {m : Nat} (hcl : ∀ hot mc f xs h, mc ≤ h.length → RSt mc h (cl hot mc f xs h)) (c : Nat) (ys : List D) (h : Hb) (hm : m ≤ h.length) : RSt m h (newV T cl c ys h) := by
  unfold newV
  split
  · rename_i g _
    have q := hcl false h.length g (.v (.box h.length) :: ys.map .v) (h ++ [some (.ins c [] [])]) (by simp)
    have p : Hst h.length h (h ++ [some (.ins c [] [])]) := Hst.push (Nat.le_refl _)
    split
    · rename_i h' e
      rw [e] at q
      split
      · exact Hst.take (Hst.trans p q) rfl hm
      · trivial
    · rename_i h' e
      rw [e] at q
      exact Hst.take (Hst.trans p q) rfl hm
    · trivial
  · trivial
theorem callN_st (T : Tb) : ∀ (n : Nat) (hot : Bool) (mc f : Nat) (xs : List Sl) (h : Hb), mc ≤ h.length → RSt mc h (callN T n hot mc f xs h) := by
  intro n
  induction n using Nat.strongRecOn with
  | _ n ih =>
    intro hot mc f xs h hm
    cases n with
    | zero => trivial
    | succ n =>
      rw [callN_eq]
      split
      · trivial
      · rename_i F _
        split
        · refine exitF_st hm (evSs_st F.body (cfN T n hot (base F mc h)) ⟨fun k f xs h hm => ih n (by omega) k _ f xs h hm, fun c xs h hm => ?_⟩ _ _ ?_)
          · exact newV_st (fun hot mc f xs h hm => ih (n - 1) (by omega) hot mc f xs h hm) c xs h hm
          · show base F mc h ≤ h.length
            unfold base
            split
            · exact hm
            · exact Nat.le_refl _
        · trivial
theorem cfN_ok (T : Tb) (n : Nat) (hot : Bool) (m : Nat) : CfOk (cfN T n hot m) :=
  ⟨fun k f xs h hm => callN_st T n k m f xs h hm, fun c xs h hm => newV_st (fun hot mc f xs h hm => callN_st T (n - 1) hot mc f xs h hm) c xs h hm⟩

end FV

set_option maxRecDepth 100000
/-! How the trees and boxes stand in the heap. -/
namespace FV
open PySem PySem.Spec L2

def toS (x : Cs) : Str := ⟨x.toArray⟩
def kK : Kk → Key
  | .i i => .inl i
  | .s x => .inr (toS x)
theorem toS_inj {x y : Cs} (h : toS x = toS y) : x = y := by
  have : x.toArray = y.toArray := congrArg Str.cps h
  simpa using this
theorem toS_eq {x y : Cs} : toS x = toS y ↔ x = y := ⟨toS_inj, fun h => by rw [h]⟩
theorem kK_inj {a b : Kk} (h : kK a = kK b) : a = b := by
  cases a <;> cases b <;> simp [kK] at h ⊢
  · exact h
  · exact toS_inj h

/-- the law at hand -/
structure Lw where
  P : Program
  w : World
  K : PySem.W.Frag
  mg : Str → Option Value
  base : Heap
  T : Tb
  cls : Nat → Addr
  ecl : Nat → Addr
  fld : Nat → Str
  fa : Nat → Addr

structure RLe (R R' : Hp) : Prop where
  rd : ∀ a u, Rd R a u → Rd R' a u
  fz : ∀ a o u, R a = some (.frz o u) → R' a = some (.frz o u)
instance {R R' : Hp} : CoeFun (RLe R R') fun _ => ∀ a u, Rd R a u → Rd R' a u := ⟨RLe.rd⟩
theorem RLe.refl {R : Hp} : RLe R R := ⟨fun _ _ h => h, fun _ _ _ h => h⟩
theorem RLe.trans {R S T : Hp} (a : RLe R S) (b : RLe S T) : RLe R T := ⟨fun x u h => b x u (a x u h), fun x o u h => b.fz x o u (a.fz x o u h)⟩
theorem RLe.upd {R : Hp} {p : Addr} {o : HO} (h : R p = none) : RLe R (upd R p o) := by
  refine ⟨fun a u r => ?_, fun a o' u r => ?_⟩
  · have ne : a ≠ p := fun e => by
      subst e
      rcases r with r | ⟨o, r⟩ <;> rw [h] at r <;> cases r
    unfold Rd
    rw [upd_ne ne]
    exact r
  · have ne : a ≠ p := fun e => by
      subst e
      rw [h] at r; cases r
    rw [upd_ne ne]
    exact r

/-- a set of keys -/
def memK (ks : List Kk) : Key → Bool := fun k => ks.any fun j => decide (k = kK j)
variable (L : Lw)
mutual
def Rep (φ : List Addr) (R : Hp) : D → V → Prop
  | .non, v => v = .non
  | .bl b, v => v = .bl b
  | .int i, v => v = .int i
  | .str x, v => v = .str (toS x)
  | .tup xs, v => ∃ a vs, v = .ref a ∧ Rd R a (.tup vs) ∧ Reps φ R xs vs
  | .lst xs, v => ∃ a vs, v = .ref a ∧ Rd R a (.lst vs) ∧ Reps φ R xs vs
  | .dic ks ds, v => ∃ a vs, v = .ref a ∧ ks.length = ds.length ∧ ks.Nodup ∧ Rd R a (.dK ((ks.map kK).zip vs)) ∧ Reps φ R ds vs
  | .set ks, v => ∃ a, v = .ref a ∧ ks.Nodup ∧ Rd R a (SetK L.P L.w a (memK ks) ks.length)
  | .ins c ns ds, v => ∃ a dx vs, v = .ref a ∧ ns.length = ds.length ∧ Rd R a (.ins (L.cls c) dx (((ns.map L.fld).zip vs))) ∧ Reps φ R ds vs
  | .box i, v => ∃ a, v = .ref a ∧ φ[i]? = some a
def Reps (φ : List Addr) (R : Hp) : List D → List V → Prop
  | [], vs => vs = []
  | d :: r, vs => ∃ v t, vs = v :: t ∧ Rep φ R d v ∧ Reps φ R r t
end
variable {L : Lw} {φ φ' : List Addr} {R R' H H' : Hp}
theorem pre_get {φ φ' : List Addr} (p : φ <+: φ') {i : Nat} {a : Addr} (h : φ[i]? = some a) : φ'[i]? = some a := by
  obtain ⟨t, rfl⟩ := p
  rw [List.getElem?_append_left (List.getElem?_eq_some_iff.mp h).1]
  exact h
mutual
theorem Rep.mono (p : φ <+: φ') (l : RLe R R') : ∀ {d : D} {v : V}, Rep L φ R d v → Rep L φ' R' d v
  | .non, _, h => h
  | .bl _, _, h => h
  | .int _, _, h => h
  | .str _, _, h => h
  | .tup xs, v, h => by
    simp only [Rep] at h ⊢
    obtain ⟨a, vs, e, r, rs⟩ := h
    exact ⟨a, vs, e, l _ _ r, Reps.mono p l rs⟩
  | .lst xs, v, h => by
    simp only [Rep] at h ⊢
    obtain ⟨a, vs, e, r, rs⟩ := h
    exact ⟨a, vs, e, l _ _ r, Reps.mono p l rs⟩
  | .dic ks ds, v, h => by
    simp only [Rep] at h ⊢
    obtain ⟨a, vs, e, hl, nd, r, rs⟩ := h
    exact ⟨a, vs, e, hl, nd, l _ _ r, Reps.mono p l rs⟩
  | .set ks, v, h => by
    simp only [Rep] at h ⊢
    obtain ⟨a, e, nd, r⟩ := h
    exact ⟨a, e, nd, l _ _ r⟩
  | .ins c ns ds, v, h => by
    simp only [Rep] at h ⊢
    obtain ⟨a, dx, vs, e, hl, r, rs⟩ := h
    exact ⟨a, dx, vs, e, hl, l _ _ r, Reps.mono p l rs⟩
  | .box i, v, h => by
    simp only [Rep] at h ⊢
    obtain ⟨a, e, r⟩ := h
    exact ⟨a, e, pre_get p r⟩
theorem Reps.mono (p : φ <+: φ') (l : RLe R R') : ∀ {ds : List D} {vs : List V}, Reps L φ R ds vs → Reps L φ' R' ds vs
  | [], _, h => h
  | d :: r, vs, h => by
    simp only [Reps] at h ⊢
    obtain ⟨v, t, e, r1, rs⟩ := h
    exact ⟨v, t, e, Rep.mono p l r1, Reps.mono p l rs⟩
end
theorem Reps.length : ∀ {ds : List D} {vs : List V}, Reps L φ R ds vs → ds.length = vs.length
  | [], _, h => by rw [Reps] at h; rw [h]; rfl
  | d :: r, vs, h => by
    simp only [Reps] at h
    obtain ⟨v, t, rfl, _, rs⟩ := h
    simp [Reps.length rs]
theorem Reps.nil : Reps L φ R [] [] := by simp [Reps]
theorem Reps.cons {d : D} {v : V} {ds : List D} {vs : List V} (a : Rep L φ R d v) (b : Reps L φ R ds vs) : Reps L φ R (d :: ds) (v :: vs) := by
  simp only [Reps]
  exact ⟨v, vs, rfl, a, b⟩
theorem Reps.append : ∀ {ds es : List D} {vs ws : List V}, Reps L φ R ds vs → Reps L φ R es ws → Reps L φ R (ds ++ es) (vs ++ ws)
  | [], es, vs, ws, h, k => by rw [Reps] at h; subst h; exact k
  | d :: r, es, vs, ws, h, k => by
    simp only [Reps] at h
    obtain ⟨v, t, rfl, r1, rs⟩ := h
    exact Reps.cons r1 (Reps.append rs k)
theorem Reps.get : ∀ {ds : List D} {vs : List V} {i : Nat} {d : D}, Reps L φ R ds vs → ds[i]? = some d → ∃ v, vs[i]? = some v ∧ Rep L φ R d v
  | [], _, i, d, _, e => by simp at e
  | d0 :: r, vs, i, d, h, e => by
    simp only [Reps] at h
    obtain ⟨v, t, rfl, r1, rs⟩ := h
    cases i with
    | zero => simp at e; subst e; exact ⟨v, rfl, r1⟩
    | succ i => simpa using Reps.get rs (by simpa using e)
theorem Reps.take : ∀ {ds : List D} {vs : List V} (n : Nat), Reps L φ R ds vs → Reps L φ R (ds.take n) (vs.take n)
  | _, _, 0, _ => by simp [Reps]
  | [], vs, n + 1, h => by rw [Reps] at h; subst h; simp [Reps]
  | d :: r, vs, n + 1, h => by
    simp only [Reps] at h
    obtain ⟨v, t, rfl, r1, rs⟩ := h
    exact Reps.cons r1 (Reps.take n rs)
theorem Reps.drop : ∀ {ds : List D} {vs : List V} (n : Nat), Reps L φ R ds vs → Reps L φ R (ds.drop n) (vs.drop n)
  | _, _, 0, h => h
  | [], vs, n + 1, h => by rw [Reps] at h; subst h; simp [Reps]
  | d :: r, vs, n + 1, h => by
    simp only [Reps] at h
    obtain ⟨v, t, rfl, r1, rs⟩ := h
    exact Reps.drop n rs
theorem Reps.set {d : D} {v : V} (a : Rep L φ R d v) : ∀ {ds : List D} {vs : List V} (n : Nat), Reps L φ R ds vs → Reps L φ R (ds.set n d) (vs.set n v)
  | [], vs, n, h => by rw [Reps] at h; subst h; simp [Reps]
  | d0 :: r, vs, n, h => by
    simp only [Reps] at h
    obtain ⟨v0, t, rfl, r1, rs⟩ := h
    cases n with
    | zero => exact Reps.cons a rs
    | succ n => exact Reps.cons r1 (Reps.set a n rs)
theorem Reps.dropLast {ds : List D} {vs : List V} (h : Reps L φ R ds vs) : Reps L φ R ds.dropLast vs.dropLast := by
  rw [List.dropLast_eq_take, List.dropLast_eq_take, h.length]
  exact h.take _

/-! ### boxes -/
variable (L)
def ORep (φ : List Addr) (R H : Hp) (a : Addr) : Ob → Prop
  | .lst xs => ∃ vs, H a = some (.lst vs) ∧ Reps L φ R xs vs
  | .dic ks ds => ∃ vs, ks.length = ds.length ∧ ks.Nodup ∧ H a = some (.dK ((ks.map kK).zip vs)) ∧ Reps L φ R ds vs
  | .set ks => ks.Nodup ∧ H a = some (SetK L.P L.w a (memK ks) ks.length)
  | .ins c ns ds => ∃ dx vs, ns.length = ds.length ∧ H a = some (.ins (L.cls c) dx ((ns.map L.fld).zip vs)) ∧ Reps L φ R ds vs
structure Rel (ψ : List (Addr × HO)) (φ : List Addr) (R H : Hp) (h : Hb) : Prop where
  le : ∀ a o, R a = some o → H a = some o
  nd : φ.Nodup
  len : φ.length = h.length
  free : ∀ a ∈ φ, R a = none
  there : ∀ a ∈ φ, ∃ o, H a = some o
  priv : ∀ p ∈ ψ, H p.1 = some p.2 ∧ p.1 ∉ φ ∧ R p.1 = none
  box : ∀ i ob, bx h i = some ob → ∃ a, φ[i]? = some a ∧ ORep L φ R H a ob
variable {L} {ψ : List (Addr × HO)}
theorem Rel.rd {h : Hb} (r : Rel L ψ φ R H h) {a : Addr} {u : HO} (x : Rd R a u) : Rd H a u := by
  rcases x with x | ⟨o, x⟩
  · exact .inl (r.le _ _ x)
  · exact .inr ⟨o, r.le _ _ x⟩
theorem Rel.fresh {h : Hb} (r : Rel L ψ φ R H h) {p : Addr} (n : H p = none) : R p = none := by
  cases e : R p with
  | none => rfl
  | some o => rw [r.le _ _ e] at n; cases n
theorem ORep.there {a : Addr} {ob : Ob} (h : ORep L φ R H a ob) : ∃ o, H a = some o := by
  cases ob with
  | lst xs => obtain ⟨vs, e, _⟩ := h; exact ⟨_, e⟩
  | dic ks ds => obtain ⟨vs, _, _, e, _⟩ := h; exact ⟨_, e⟩
  | set ks => obtain ⟨_, e⟩ := h; exact ⟨_, e⟩
  | ins c ns ds => obtain ⟨dx, vs, _, e, _⟩ := h; exact ⟨_, e⟩
theorem ORep.mono {a : Addr} {ob : Ob} (p : φ <+: φ') (l : RLe R R') (e : H' a = H a) (h : ORep L φ R H a ob) : ORep L φ' R' H' a ob := by
  cases ob with
  | lst xs => obtain ⟨vs, q, rs⟩ := h; exact ⟨vs, e.trans q, rs.mono p l⟩
  | dic ks ds => obtain ⟨vs, hl, nd, q, rs⟩ := h; exact ⟨vs, hl, nd, e.trans q, rs.mono p l⟩
  | set ks => obtain ⟨nd, q⟩ := h; exact ⟨nd, e.trans q⟩
  | ins c ns ds => obtain ⟨dx, vs, hl, q, rs⟩ := h; exact ⟨dx, vs, hl, e.trans q, rs.mono p l⟩
theorem Rel.np {h : Hb} (r : Rel L ψ φ R H h) {p : Addr} (n : H p = none) : p ∉ φ := fun z => by
  obtain ⟨o, e⟩ := r.there p z
  rw [n] at e; cases e
/-- a new object that stays as it is -/
theorem Rel.laid {h : Hb} (r : Rel L ψ φ R H h) {p : Addr} {o : HO} (n : H p = none) : Rel L ψ φ (upd R p o) (upd H p o) h where
  le := fun a u e => by
    by_cases ha : a = p
    · subst ha; rw [upd_same] at e ⊢; exact e
    · rw [upd_ne ha] at e ⊢; exact r.le a u e
  nd := r.nd
  len := r.len
  free := fun a ha => by
    have : a ≠ p := fun e => r.np n (e ▸ ha)
    rw [upd_ne this]; exact r.free a ha
  there := fun a ha => by
    have : a ≠ p := fun e => r.np n (e ▸ ha)
    rw [upd_ne this]; exact r.there a ha
  priv := fun q hq => by
    obtain ⟨e1, e2, e3⟩ := r.priv q hq
    have : q.1 ≠ p := fun e => by rw [e, n] at e1; cases e1
    rw [upd_ne this, upd_ne this]
    exact ⟨e1, e2, e3⟩
  box := fun i ob e => by
    obtain ⟨a, ea, q⟩ := r.box i ob e
    obtain ⟨o', e'⟩ := q.there
    exact ⟨a, ea, q.mono (List.prefix_refl _) (RLe.upd (r.fresh n)) (upd_ne (fun z => by rw [z, n] at e'; cases e'))⟩
/-- a new box -/
theorem Rel.boxed {h : Hb} (r : Rel L ψ φ R H h) {p : Addr} {o : HO} {ob : Ob} (n : H p = none) (new : ORep L (φ ++ [p]) R (upd H p o) p ob) : Rel L ψ (φ ++ [p]) R (upd H p o) (h ++ [some ob]) where
  le := fun a u e => by
    by_cases ha : a = p
    · subst ha; rw [r.fresh n] at e; cases e
    · rw [upd_ne ha]; exact r.le a u e
  nd := by
    rw [List.nodup_append]
    refine ⟨r.nd, by simp, fun a ha b hb => ?_⟩
    rw [List.mem_singleton] at hb
    subst hb
    exact fun e => r.np n (e ▸ ha)
  len := by simp [r.len]
  free := fun a ha => by
    rcases List.mem_append.mp ha with z | z
    · exact r.free a z
    · rw [List.mem_singleton] at z; subst z; exact r.fresh n
  there := fun a ha => by
    by_cases e : a = p
    · rw [e]; exact ⟨_, upd_same⟩
    · rw [upd_ne e]
      rcases List.mem_append.mp ha with z | z
      · exact r.there a z
      · rw [List.mem_singleton] at z; exact absurd z e
  priv := fun q hq => by
    obtain ⟨e1, e2, e3⟩ := r.priv q hq
    have : q.1 ≠ p := fun e => by rw [e, n] at e1; cases e1
    rw [upd_ne this]
    exact ⟨e1, fun z => (List.mem_append.mp z).elim e2 fun z => this (List.mem_singleton.mp z), e3⟩
  box := fun i o' e => by
    by_cases hi : i < h.length
    · rw [bx_push_lt hi] at e
      obtain ⟨a, ea, q⟩ := r.box i o' e
      obtain ⟨o2, e2⟩ := q.there
      exact ⟨a, pre_get (List.prefix_append _ _) ea, q.mono (List.prefix_append _ _) RLe.refl (upd_ne (fun z => by rw [z, n] at e2; cases e2))⟩
    · have hl := bx_lt e
      rw [List.length_append] at hl
      have hi' : i = h.length := by simp at hl; omega
      subst hi'
      rw [bx_push] at e
      cases e
      exact ⟨p, by rw [← r.len]; simp, new⟩
/-- a box is written -/
theorem Rel.write {h : Hb} (r : Rel L ψ φ R H h) {i : Nat} {a : Addr} {o : HO} {ob ob' : Ob} (e : bx h i = some ob) (ea : φ[i]? = some a) (new : ORep L φ R (upd H a o) a ob') : Rel L ψ φ R (upd H a o) (h.set i (some ob')) where
  le := fun b u eb => by
    have : b ≠ a := fun z => by
      have := r.free a (List.mem_of_getElem? ea)
      rw [z, this] at eb; cases eb
    rw [upd_ne this]; exact r.le b u eb
  nd := r.nd
  len := by simp [r.len]
  free := r.free
  there := fun b hb => by
    by_cases z : b = a
    · rw [z]; exact ⟨_, upd_same⟩
    · rw [upd_ne z]; exact r.there b hb
  priv := fun q hq => by
    obtain ⟨e1, e2, e3⟩ := r.priv q hq
    have : q.1 ≠ a := fun e => e2 (e ▸ List.mem_of_getElem? ea)
    rw [upd_ne this]
    exact ⟨e1, e2, e3⟩
  box := fun j o' ej => by
    by_cases hij : i = j
    · subst hij
      rw [bx_set (bx_lt e)] at ej
      cases ej
      exact ⟨a, ea, new⟩
    · rw [bx_set_ne hij] at ej
      obtain ⟨b, eb, q⟩ := r.box j o' ej
      have ne : b ≠ a := fun z => by
        subst z
        obtain ⟨h1, e1⟩ := List.getElem?_eq_some_iff.mp ea
        obtain ⟨h2, e2⟩ := List.getElem?_eq_some_iff.mp eb
        exact hij ((List.getElem_inj r.nd).mp (e1.trans e2.symm))
      exact ⟨b, eb, q.mono (List.prefix_refl _) RLe.refl (upd_ne ne)⟩
/-- a new private object -/
theorem Rel.hold {h : Hb} (r : Rel L ψ φ R H h) {p : Addr} {o : HO} (n : H p = none) : Rel L ((p, o) :: ψ) φ R (upd H p o) h where
  le := fun a u e => by
    have : a ≠ p := fun z => by rw [z, r.fresh n] at e; cases e
    rw [upd_ne this]; exact r.le a u e
  nd := r.nd
  len := r.len
  free := r.free
  there := fun a ha => by
    have : a ≠ p := fun e => r.np n (e ▸ ha)
    rw [upd_ne this]; exact r.there a ha
  priv := fun q hq => by
    rcases List.mem_cons.mp hq with e | hq
    · rw [e]; exact ⟨upd_same, r.np n, r.fresh n⟩
    · obtain ⟨e1, e2, e3⟩ := r.priv q hq
      have : q.1 ≠ p := fun e => by rw [e, n] at e1; cases e1
      rw [upd_ne this]
      exact ⟨e1, e2, e3⟩
  box := fun i ob e => by
    obtain ⟨a, ea, q⟩ := r.box i ob e
    obtain ⟨o', e'⟩ := q.there
    exact ⟨a, ea, q.mono (List.prefix_refl _) RLe.refl (upd_ne (fun z => by rw [z, n] at e'; cases e'))⟩
/-- a private object is written -/
theorem Rel.change {h : Hb} {p : Addr} {o o' : HO} (r : Rel L ((p, o) :: ψ) φ R H h) (nd : ∀ q ∈ ψ, q.1 ≠ p) : Rel L ((p, o') :: ψ) φ R (upd H p o') h := by
  obtain ⟨h1, h2, h3⟩ := r.priv (p, o) List.mem_cons_self
  refine ⟨fun a u e => ?_, r.nd, r.len, r.free, fun a ha => ?_, fun q hq => ?_, fun i ob e => ?_⟩
  · have : a ≠ p := fun z => by rw [z] at e; rw [h3] at e; cases e
    rw [upd_ne this]; exact r.le a u e
  · have : a ≠ p := fun e => h2 (e ▸ ha)
    rw [upd_ne this]; exact r.there a ha
  · rcases List.mem_cons.mp hq with e | hq
    · rw [e]; exact ⟨upd_same, h2, h3⟩
    · obtain ⟨e1, e2, e3⟩ := r.priv q (List.mem_cons_of_mem _ hq)
      rw [upd_ne (nd q hq)]
      exact ⟨e1, e2, e3⟩
  · obtain ⟨a, ea, q⟩ := r.box i ob e
    have : a ≠ p := fun z => h2 (z ▸ List.mem_of_getElem? ea)
    exact ⟨a, ea, q.mono (List.prefix_refl _) RLe.refl (upd_ne this)⟩
theorem RLe.put {p : Addr} {o : HO} (h : R p = none) : RLe R (fun a => if a = p then some o else R a) := RLe.upd h
/-- a private object stays as it is from now on -/
theorem Rel.adopt {h : Hb} {p : Addr} {o : HO} (r : Rel L ((p, o) :: ψ) φ R H h) (nd : ∀ q ∈ ψ, q.1 ≠ p) : Rel L ψ φ (upd R p o) H h := by
  obtain ⟨h1, h2, h3⟩ := r.priv (p, o) List.mem_cons_self
  refine ⟨fun a u e => ?_, r.nd, r.len, fun a ha => ?_, r.there, fun q hq => ?_, fun i ob e => ?_⟩
  · by_cases z : a = p
    · subst z; rw [upd_same] at e; cases e; exact h1
    · rw [upd_ne z] at e; exact r.le a u e
  · have : a ≠ p := fun e => h2 (e ▸ ha)
    rw [upd_ne this]; exact r.free a ha
  · obtain ⟨e1, e2, e3⟩ := r.priv q (List.mem_cons_of_mem _ hq)
    rw [upd_ne (nd q hq)]
    exact ⟨e1, e2, e3⟩
  · obtain ⟨a, ea, q⟩ := r.box i ob e
    exact ⟨a, ea, q.mono (List.prefix_refl _) (RLe.upd h3) rfl⟩
/-- a private object becomes a box -/
theorem Rel.box' {h : Hb} {p : Addr} {o : HO} {ob : Ob} (r : Rel L ((p, o) :: ψ) φ R H h) (nd : ∀ q ∈ ψ, q.1 ≠ p) (new : ORep L (φ ++ [p]) R H p ob) : Rel L ψ (φ ++ [p]) R H (h ++ [some ob]) := by
  obtain ⟨h1, h2, h3⟩ := r.priv (p, o) List.mem_cons_self
  refine ⟨r.le, ?_, by simp [r.len], fun a ha => ?_, fun a ha => ?_, fun q hq => ?_, fun i o' e => ?_⟩
  · rw [List.nodup_append]
    refine ⟨r.nd, by simp, fun a ha b hb => ?_⟩
    rw [List.mem_singleton] at hb
    subst hb
    exact fun e => h2 (e ▸ ha)
  · rcases List.mem_append.mp ha with z | z
    · exact r.free a z
    · rw [List.mem_singleton] at z; subst z; exact h3
  · rcases List.mem_append.mp ha with z | z
    · exact r.there a z
    · rw [List.mem_singleton] at z; subst z; exact ⟨_, h1⟩
  · obtain ⟨e1, e2, e3⟩ := r.priv q (List.mem_cons_of_mem _ hq)
    exact ⟨e1, fun z => (List.mem_append.mp z).elim e2 fun z => nd q hq (List.mem_singleton.mp z), e3⟩
  · by_cases hi : i < h.length
    · rw [bx_push_lt hi] at e
      obtain ⟨a, ea, q⟩ := r.box i o' e
      exact ⟨a, pre_get (List.prefix_append _ _) ea, q.mono (List.prefix_append _ _) RLe.refl rfl⟩
    · have hl := bx_lt e
      rw [List.length_append] at hl
      have hi' : i = h.length := by simp at hl; omega
      subst hi'
      rw [bx_push] at e
      cases e
      exact ⟨p, by rw [← r.len]; simp, new⟩
end FV

set_option maxRecDepth 100000
/-! The operations: what the evaluator says is what the program does. -/
namespace FV
open PySem PySem.Spec L2
variable {L : Lw} {ψ : List (Addr × HO)}

/-- an exception's fields, in its own dict -/
def XRep (L : Lw) (φ : List Addr) (G : Hp) (ns : List Nat) (vs : List D) : Option Addr → Prop
  | none => ns = [] ∧ vs = []
  | some d => ∃ fs, Rd G d (.xd fs) ∧ ∀ f x, (ns.zip vs).lookup f = some x → ∃ v, fs.lookup (L.fld f) = some v ∧ Rep L φ G x v
theorem XRep.mono {φ φ' : List Addr} {G G' : Hp} (p : φ <+: φ') (l : RLe G G') {ns : List Nat} {vs : List D} : ∀ {d : Option Addr}, XRep L φ G ns vs d → XRep L φ' G' ns vs d
  | none, h => h
  | some d, ⟨fs, r, q⟩ => ⟨fs, l _ _ r, fun f x e => by
    obtain ⟨v, e1, e2⟩ := q f x e
    exact ⟨v, e1, e2.mono p l⟩⟩

/-- from a result of the evaluator: what is wanted of the value, of an exception -/
def DenR {α β : Type} (L : Lw) (ψ : List (Addr × HO)) (ρ : List Addr → Hp → α → β → Prop) (W : WX) (σV : L2.St) (φ : List Addr) (G : Hp) (r : FV.R α) (Q : β → Hp → Prop) : Prop :=
  match r with
  | .ok a h' => ∀ φ' G' H' b, φ <+: φ' → RLe G G' → Rel L ψ φ' G' H' h' → ρ φ' G' a b → Q b H'
  | .ex c ns vs h' => ∀ φ' G' H' d, φ <+: φ' → RLe G G' → Rel L ψ φ' G' H' h' → XRep L φ' G' ns vs d → W (.ref (L.ecl c)) d σV H'
  | .st => False
section
variable {α β γ δ : Type} {ρ : List Addr → Hp → α → β → Prop} {ρ' : List Addr → Hp → γ → δ → Prop} {W : WX} {σV : L2.St} {φ φ' : List Addr} {G G' H : Hp} {h : Hb}
theorem DenR.mono {r : FV.R α} {Q : β → Hp → Prop} (x : DenR L ψ ρ W σV φ G r Q) (p : φ <+: φ') (l : RLe G G') : DenR L ψ ρ W σV φ' G' r Q := by
  cases r with
  | ok a h' => exact fun φ2 G2 H2 b p2 l2 => x φ2 G2 H2 b (p.trans p2) (l.trans l2)
  | ex c ns vs h' => exact fun φ2 G2 H2 b p2 l2 => x φ2 G2 H2 b (p.trans p2) (l.trans l2)
  | st => exact x
theorem DenR.bind {r : FV.R α} {g : α → Hb → FV.R γ} {Q : δ → Hp → Prop} {Q1 : β → Hp → Prop} (x : DenR L ψ ρ' W σV φ G (r.bind g) Q)
    (k : ∀ a h1 φ1 G1 H1 b, φ <+: φ1 → RLe G G1 → Rel L ψ φ1 G1 H1 h1 → ρ φ1 G1 a b → DenR L ψ ρ' W σV φ1 G1 (g a h1) Q → Q1 b H1) : DenR L ψ ρ W σV φ G r Q1 := by
  cases r with
  | ok a h1 => exact fun φ1 G1 H1 b p l rel rb => k a h1 φ1 G1 H1 b p l rel rb (DenR.mono x p l)
  | ex c ns vs h' => exact x
  | st => exact x
theorem DenR.val {a : α} {b : β} {Q : β → Hp → Prop} (x : DenR L ψ ρ W σV φ G (.ok a h) Q) (rel : Rel L ψ φ G H h) (r : ρ φ G a b) : Q b H :=
  x φ G H b (List.prefix_refl _) RLe.refl rel r
theorem DenR.ite {c : Prop} [Decidable c] {a : FV.R α} {Q : β → Hp → Prop} (x : DenR L ψ ρ W σV φ G (if c then a else .st) Q) : c ∧ DenR L ψ ρ W σV φ G a Q := by
  split at x
  · exact ⟨by assumption, x⟩
  · exact x.elim
end
abbrev DR (L : Lw) (ψ : List (Addr × HO)) (W : WX) (σV : L2.St) (φ : List Addr) (G : Hp) (r : FV.R D) (Q : VK) : Prop := DenR L ψ (Rep L) W σV φ G r Q

section
variable {W : WX} {σV : L2.St} {φ : List Addr} {G H : Hp} {h : Hb} {Q : VK} {K : PySem.W.Frag}
theorem rd_sql {a : Addr} {xs : List V} (x : Rd H a (.lst xs)) : SqL K H a xs := .inl x
theorem seqL_rep {d : D} {v : V} {xs : List D} (rel : Rel L ψ φ G H h) (r : Rep L φ G d v) (e : seqL h d = some xs) : ∃ p vs, v = .ref p ∧ Rd H p (.lst vs) ∧ Reps L φ G xs vs := by
  cases d with
  | lst ys =>
    cases e
    simp only [Rep] at r
    obtain ⟨a, vs, rfl, q, rs⟩ := r
    exact ⟨a, vs, rfl, rel.rd q, rs⟩
  | box i =>
    simp only [seqL] at e
    split at e
    · rename_i ys q
      cases e
      simp only [Rep] at r
      obtain ⟨a, rfl, ea⟩ := r
      obtain ⟨b, eb, vs, hv, rs⟩ := rel.box i _ q
      rw [ea] at eb; cases eb
      exact ⟨a, vs, rfl, .inl hv, rs⟩
    · cases e
  | _ => cases e
theorem dicV_rep {d : D} {v : V} {ks : List Kk} {ds : List D} (rel : Rel L ψ φ G H h) (r : Rep L φ G d v) (e : dicV h d = some (ks, ds)) :
    ∃ p vs, v = .ref p ∧ ks.length = ds.length ∧ ks.Nodup ∧ Rd H p (.dK ((ks.map kK).zip vs)) ∧ Reps L φ G ds vs := by
  cases d with
  | dic ks' ds' =>
    cases e
    simp only [Rep] at r
    obtain ⟨a, vs, rfl, hl, nd, q, rs⟩ := r
    exact ⟨a, vs, rfl, hl, nd, rel.rd q, rs⟩
  | box i =>
    simp only [dicV] at e
    split at e
    · rename_i ks' ds' q
      cases e
      simp only [Rep] at r
      obtain ⟨a, rfl, ea⟩ := r
      obtain ⟨b, eb, vs, hl, nd, hv, rs⟩ := rel.box i _ q
      rw [ea] at eb; cases eb
      exact ⟨a, vs, rfl, hl, nd, .inl hv, rs⟩
    · cases e
  | _ => cases e
theorem setV_rep {d : D} {v : V} {ks : List Kk} (rel : Rel L ψ φ G H h) (r : Rep L φ G d v) (e : setV h d = some ks) :
    ∃ p, v = .ref p ∧ ks.Nodup ∧ Rd H p (SetK L.P L.w p (memK ks) ks.length) := by
  cases d with
  | set ks' =>
    cases e
    simp only [Rep] at r
    obtain ⟨a, rfl, nd, q⟩ := r
    exact ⟨a, rfl, nd, rel.rd q⟩
  | box i =>
    simp only [setV] at e
    split at e
    · rename_i ks' q
      cases e
      simp only [Rep] at r
      obtain ⟨a, rfl, ea⟩ := r
      obtain ⟨b, eb, nd, hv⟩ := rel.box i _ q
      rw [ea] at eb; cases eb
      exact ⟨a, rfl, nd, .inl hv⟩
    · cases e
  | _ => cases e
theorem box_lst {i : Nat} {v : V} {xs : List D} (rel : Rel L ψ φ G H h) (r : Rep L φ G (.box i) v) (e : bx h i = some (.lst xs)) : ∃ p vs, v = .ref p ∧ φ[i]? = some p ∧ H p = some (.lst vs) ∧ Reps L φ G xs vs := by
  simp only [Rep] at r
  obtain ⟨a, rfl, ea⟩ := r
  obtain ⟨b, eb, vs, hv, rs⟩ := rel.box i _ e
  rw [ea] at eb; cases eb
  exact ⟨a, vs, rfl, ea, hv, rs⟩

/-! ### new objects -/
theorem new_lst {b : Bool} {xs : List D} {vs : List V} (rel : Rel L ψ φ G H h) (rs : Reps L φ G xs vs) (x : DR L ψ W σV φ G (mkL b xs h) Q) (p : Addr) (n : H p = none) : Q (.ref p) (upd H p (.lst vs)) := by
  unfold mkL at x
  cases b with
  | false =>
    refine x φ (upd G p (.lst vs)) _ (.ref p) (List.prefix_refl _) (RLe.upd (rel.fresh n)) (rel.laid n) ?_
    simp only [Rep]
    exact ⟨p, vs, rfl, .inl upd_same, rs.mono (List.prefix_refl _) (RLe.upd (rel.fresh n))⟩
  | true =>
    refine x (φ ++ [p]) G _ (.ref p) (List.prefix_append _ _) RLe.refl (rel.boxed n ⟨vs, upd_same, rs.mono (List.prefix_append _ _) RLe.refl⟩) ?_
    simp only [Rep]
    exact ⟨p, rfl, by rw [← rel.len]; simp⟩
theorem new_tup {xs : List D} {vs : List V} (rel : Rel L ψ φ G H h) (rs : Reps L φ G xs vs) (x : DR L ψ W σV φ G (.ok (.tup xs) h) Q) (p : Addr) (n : H p = none) : Q (.ref p) (upd H p (.tup vs)) := by
  refine x φ (upd G p (.tup vs)) _ (.ref p) (List.prefix_refl _) (RLe.upd (rel.fresh n)) (rel.laid n) ?_
  simp only [Rep]
  exact ⟨p, vs, rfl, .inl upd_same, rs.mono (List.prefix_refl _) (RLe.upd (rel.fresh n))⟩

/-! ### flat lists -/
theorem reps_ints {xs : List D} {vs : List V} {zs : List Int} (rs : Reps L φ G xs vs) (e : intsD xs = some zs) : vs = zs.map V.int := by
  induction xs generalizing vs zs with
  | nil => cases e; simpa [Reps] using rs
  | cons d r ih =>
    simp only [Reps] at rs
    obtain ⟨v, t, rfl, r1, r2⟩ := rs
    cases d with
    | int i =>
      simp only [intsD, Option.map_eq_some_iff] at e
      obtain ⟨zs', e1, rfl⟩ := e
      simp only [Rep] at r1
      subst r1
      rw [ih r2 e1]; rfl
    | _ => cases e
theorem reps_bools {xs : List D} {vs : List V} {zs : List Bool} (rs : Reps L φ G xs vs) (e : boolsD xs = some zs) : vs = zs.map V.bl := by
  induction xs generalizing vs zs with
  | nil => cases e; simpa [Reps] using rs
  | cons d r ih =>
    simp only [Reps] at rs
    obtain ⟨v, t, rfl, r1, r2⟩ := rs
    cases d with
    | bl i =>
      simp only [boolsD, Option.map_eq_some_iff] at e
      obtain ⟨zs', e1, rfl⟩ := e
      simp only [Rep] at r1
      subst r1
      rw [ih r2 e1]; rfl
    | _ => cases e
theorem maxI_mem : ∀ {l : List Int}, 0 < l.length → maxI l ∈ l ∧ ∀ y ∈ l, y ≤ maxI l
  | [], h => by simp at h
  | [x], _ => by simp [maxI]
  | x :: y :: r, _ => by
    have ih := maxI_mem (l := y :: r) (by simp)
    have e : maxI (x :: y :: r) = max x (maxI (y :: r)) := rfl
    rw [e]
    refine ⟨?_, fun z hz => ?_⟩
    · rcases Int.le_total x (maxI (y :: r)) with q | q
      · rw [Int.max_eq_right q]; exact List.mem_cons_of_mem _ ih.1
      · rw [Int.max_eq_left q]; exact List.mem_cons_self
    · rcases List.mem_cons.mp hz with q | q
      · rw [q]; omega
      · have := ih.2 z q; omega
theorem minI_mem : ∀ {l : List Int}, 0 < l.length → minI l ∈ l ∧ ∀ y ∈ l, minI l ≤ y
  | [], h => by simp at h
  | [x], _ => by simp [minI]
  | x :: y :: r, _ => by
    have ih := minI_mem (l := y :: r) (by simp)
    have e : minI (x :: y :: r) = min x (minI (y :: r)) := rfl
    rw [e]
    refine ⟨?_, fun z hz => ?_⟩
    · rcases Int.le_total x (minI (y :: r)) with q | q
      · rw [Int.min_eq_left q]; exact List.mem_cons_self
      · rw [Int.min_eq_right q]; exact List.mem_cons_of_mem _ ih.1
    · rcases List.mem_cons.mp hz with q | q
      · rw [q]; omega
      · have := ih.2 z q; omega
theorem reps_keys {ks : List Kk} : Reps L φ G (ks.map dKey) (ks.map fun k => kV (kK k)) := by
  induction ks with
  | nil => simp [Reps]
  | cons k r ih =>
    refine Reps.cons ?_ ih
    cases k <;> simp [dKey, kK, kV, Rep]
theorem flat_rep {d : D} {v : V} (f : flat d = true) (r : Rep L φ G d v) : flatV v = true := by
  cases d <;> simp [flat] at f <;> simp only [Rep] at r <;> subst r <;> rfl
theorem flats_rep {xs : List D} {vs : List V} (f : xs.all flat = true) (rs : Reps L φ G xs vs) : vs.all flatV = true := by
  induction xs generalizing vs with
  | nil => simp [Reps] at rs; subst rs; rfl
  | cons d r ih =>
    simp only [Reps] at rs
    obtain ⟨v, t, rfl, r1, r2⟩ := rs
    simp only [List.all_cons, Bool.and_eq_true] at f ⊢
    exact ⟨flat_rep f.1 r1, ih f.2 r2⟩
theorem toS_beq {x y : Cs} : (toS x == toS y) = (x == y) := by
  rw [Bool.eq_iff_iff]
  simp [toS_eq]
theorem eqv_rep {d e : D} {v u : V} (f : flat d = true) (g : flat e = true) (r : Rep L φ G d v) (s : Rep L φ G e u) : eqV v u = eqv d e := by
  cases d <;> simp [flat] at f <;> simp only [Rep] at r <;> subst r <;> cases e <;> simp [flat] at g <;> simp only [Rep] at s <;> subst s <;> simp [eqV, eqv, toS_beq]
theorem inV_rep {d : D} {v : V} {xs : List D} {vs : List V} (f : flat d = true) (g : xs.all flat = true) (r : Rep L φ G d v) (s : Reps L φ G xs vs) : inV v vs = xs.any fun y => eqv y d := by
  induction xs generalizing vs with
  | nil => simp [Reps] at s; subst s; rfl
  | cons e t ih =>
    simp only [Reps] at s
    obtain ⟨u, us, rfl, r1, r2⟩ := s
    simp only [List.all_cons, Bool.and_eq_true] at g
    have := ih g.2 r2
    simp only [inV, List.any_cons] at this ⊢
    rw [this, eqv_rep g.1 f r1 r]

/-! ### plain data, == -/
mutual
def py : D → PyData
  | .non => .none
  | .bl b => .bool b
  | .int i => .int i
  | .str x => .str (toS x)
  | .tup xs => .tuple (pys xs)
  | .lst xs => .list (pys xs)
  | _ => .none
def pys : List D → List PyData
  | [] => []
  | d :: r => py d :: pys r
end
mutual
theorem plain_dp (rel : Rel L ψ φ G H h) : ∀ {n : Nat} {d : D} {v : V}, plain n d = true → Rep L φ G d v → Dp K H v (py d) ∧ (py d).canLay0 = true ∧ (py d).depth ≤ n
  | n, .non, v, _, r => by simp only [Rep] at r; subst r; exact ⟨.non, rfl, Nat.zero_le _⟩
  | n, .bl b, v, _, r => by simp only [Rep] at r; subst r; exact ⟨.bl b, rfl, Nat.zero_le _⟩
  | n, .int b, v, _, r => by simp only [Rep] at r; subst r; exact ⟨.int b, rfl, Nat.zero_le _⟩
  | n, .str x, v, p, r => by
    simp only [Rep] at r
    subst r
    refine ⟨.str _, ?_, Nat.zero_le _⟩
    simp only [plain] at p
    show PyData.strOk (toS x) = true
    unfold PyData.strOk toS
    simpa using p
  | 0, .tup xs, v, p, r => by simp [plain] at p
  | 0, .lst xs, v, p, r => by simp [plain] at p
  | n + 1, .tup xs, v, p, r => by
    simp only [plain] at p
    simp only [Rep] at r
    obtain ⟨a, vs, rfl, q, rs⟩ := r
    obtain ⟨h1, h2, h3⟩ := plains_dp rel p rs
    refine ⟨.tup (.inl (rel.rd q)) h1, ?_, ?_⟩
    · simp only [py, PyData.canLay0]; exact h2
    · simp only [py, PyData.depth]; omega
  | n + 1, .lst xs, v, p, r => by
    simp only [plain] at p
    simp only [Rep] at r
    obtain ⟨a, vs, rfl, q, rs⟩ := r
    obtain ⟨h1, h2, h3⟩ := plains_dp rel p rs
    refine ⟨.lst (.inl (rel.rd q)) h1, ?_, ?_⟩
    · simp only [py, PyData.canLay0]; exact h2
    · simp only [py, PyData.depth]; omega
  | n, .dic _ _, v, p, r => by cases n <;> simp [plain] at p
  | n, .set _, v, p, r => by cases n <;> simp [plain] at p
  | n, .ins _ _ _, v, p, r => by cases n <;> simp [plain] at p
  | n, .box _, v, p, r => by cases n <;> simp [plain] at p
theorem plains_dp (rel : Rel L ψ φ G H h) : ∀ {n : Nat} {ds : List D} {vs : List V}, plains n ds = true → Reps L φ G ds vs → DpAll K H vs (pys ds) ∧ PyData.canLayAll0 (pys ds) = true ∧ PyData.depthAll (pys ds) ≤ n
  | n, [], vs, _, r => by simp only [Reps] at r; subst r; exact ⟨.nil, rfl, Nat.zero_le _⟩
  | n, d :: t, vs, p, r => by
    simp only [plains, Bool.and_eq_true] at p
    simp only [Reps] at r
    obtain ⟨v, us, rfl, r1, r2⟩ := r
    obtain ⟨h1, h2, h3⟩ := plain_dp rel p.1 r1
    obtain ⟨h4, h5, h6⟩ := plains_dp rel p.2 r2
    refine ⟨.cons h1 h4, ?_, ?_⟩
    · simp only [pys, PyData.canLayAll0, Bool.and_eq_true]; exact ⟨h2, h5⟩
    · simp only [pys, PyData.depthAll]; omega
end
mutual
theorem eqv_py : ∀ {n m : Nat} {d e : D}, plain n d = true → plain m e = true → PyData.eqv (py d) (py e) = eqv d e
  | _, _, .non, e, _, q => by cases e <;> simp [py, PyData.eqv, eqv, plain] at q ⊢ 
  | _, _, .bl b, e, _, q => by cases e <;> simp [py, PyData.eqv, eqv, plain] at q ⊢
  | _, _, .int b, e, _, q => by cases e <;> simp [py, PyData.eqv, eqv, plain] at q ⊢
  | _, _, .str b, e, _, q => by cases e <;> simp [py, PyData.eqv, eqv, plain, toS_beq] at q ⊢
  | n, m, .tup xs, e, p, q => by
    cases e with
    | tup ys =>
      cases n with
      | zero => simp [plain] at p
      | succ n =>
        cases m with
        | zero => simp [plain] at q
        | succ m =>
          simp only [plain] at p q
          simp only [py, PyData.eqv, eqv]
          exact eqvs_py p q
    | _ => simp [py, PyData.eqv, eqv, plain] at q ⊢
  | n, m, .lst xs, e, p, q => by
    cases e with
    | lst ys =>
      cases n with
      | zero => simp [plain] at p
      | succ n =>
        cases m with
        | zero => simp [plain] at q
        | succ m =>
          simp only [plain] at p q
          simp only [py, PyData.eqv, eqv]
          exact eqvs_py p q
    | _ => simp [py, PyData.eqv, eqv, plain] at q ⊢
  | n, _, .dic _ _, _, p, _ => by cases n <;> simp [plain] at p
  | n, _, .set _, _, p, _ => by cases n <;> simp [plain] at p
  | n, _, .ins _ _ _, _, p, _ => by cases n <;> simp [plain] at p
  | n, _, .box _, _, p, _ => by cases n <;> simp [plain] at p
theorem eqvs_py : ∀ {n m : Nat} {xs ys : List D}, plains n xs = true → plains m ys = true → PyData.eqvAll (pys xs) (pys ys) = eqvs xs ys
  | _, _, [], [], _, _ => rfl
  | _, _, [], _ :: _, _, _ => rfl
  | _, _, _ :: _, [], _, _ => rfl
  | n, m, d :: xs, e :: ys, p, q => by
    simp only [plains, Bool.and_eq_true] at p q
    simp only [pys, PyData.eqvAll, eqvs]
    rw [eqv_py p.1 q.1, eqvs_py p.2 q.2]
end
end
end FV

set_option maxRecDepth 100000
/-! Operations with two operands. -/
namespace FV
open PySem PySem.Spec L2
variable {L : Lw} {ψ : List (Addr × HO)}
theorem lineN_eq : lineN = sizeLine := by rw [sizeLine_eq]; rfl

/-! ### + -/
def rCatL : R2 := fun x y H Q => ∃ l b xs zs, x = .ref l ∧ y = .ref b ∧ Rd H l (.lst xs) ∧ Rd H b (.lst zs) ∧ xs.length + zs.length ≤ sizeLine ∧ ∀ p, H p = none → Q (.ref p) (upd H p (.lst (xs ++ zs)))
theorem op_catL {X : Cx} : OpR X (binaryOp .Add) rCatL := by
  intro pins s σ H x y v u Q I rx ry h
  obtain ⟨l, b, xs, zs, rfl, rfl, hH, hB, hz, q⟩ := h
  cases rx
  cases ry
  obtain ⟨z, its, n, r, e⟩ := hH.ok I.hok
  obtain ⟨z2, its2, n2, r2, e2⟩ := hB.ok I.hok
  have hl := r.length
  have hl2 := r2.length
  refine PySem.P.add_list e e2 ?_ (by rw [List.size_toArray, List.size_toArray]; omega)
  have ea : its.toArray ++ its2.toArray = (its ++ its2).toArray := by simp
  rw [ea]
  exact ⟨.ref _, _, I.lnew (t' := s.toks) (r.append r2) (by rw [List.length_append]; omega), rfl, q _ I.fresh⟩
def rStrAdd : R2 := fun x y H Q => ∃ i j, x = .str i ∧ y = .str j ∧ i.length + j.length ≤ sizeLine ∧ Q (.str (i ++ j)) H
def rAddA (K : PySem.W.Frag) : R2 := fun x y H Q => (rI0 (fun i j => .int (i + j)) x y H Q ∨ rStrAdd x y H Q) ∨ (rCatL x y H Q ∨ rCatT K x y H Q)
theorem op_addA {X : Cx} : OpR X (binaryOp .Add) (rAddA X.K) := (op_add.or op_add_str).or (op_catL.or op_catT)

section
variable {W : WX} {σV : L2.St} {φ : List Addr} {G H : Hp} {h : Hb} {Q : VK} {K : PySem.W.Frag} {a b : D} {x y : V} {m : Nat}
theorem toS_append {x y : Cs} : toS x ++ toS y = toS (x ++ y) := by
  show (⟨x.toArray ++ y.toArray⟩ : Str) = _
  simp [toS]
theorem toS_length {x : Cs} : (toS x).length = x.length := by simp [toS, Str.length]
theorem seqL_none_of {d : D} (h1 : ∀ xs, d ≠ .lst xs) (h2 : ∀ i, d ≠ .box i) : seqL h d = none := by
  cases d <;> simp [seqL] at * 
theorem s_add (rel : Rel L ψ φ G H h) (rx : Rep L φ G a x) (ry : Rep L φ G b y) (d : DR L ψ W σV φ G (sem2 m .add a b h) Q) : rAddA K x y H Q := by
  have lists : DR L ψ W σV φ G (match seqL h a, seqL h b with
      | some x, some y => if x.length + y.length ≤ lineN then .ok (.lst (x ++ y)) h else .st
      | _, _ => .st) Q → rAddA K x y H Q := fun d => by
    split at d
    · rename_i xs ys e1 e2
      obtain ⟨hc, d⟩ := DenR.ite d
      obtain ⟨p, vs, rfl, q1, r1⟩ := seqL_rep rel rx e1
      obtain ⟨p2, vs2, rfl, q2, r2⟩ := seqL_rep rel ry e2
      refine .inr (.inl ⟨p, p2, vs, vs2, rfl, rfl, q1, q2, by rw [← r1.length, ← r2.length, ← lineN_eq]; exact hc, fun q n => ?_⟩)
      exact new_lst (b := false) rel (r1.append r2) d q n
    · exact d.elim
  cases a with
  | int i =>
    cases b with
    | int j =>
      simp only [Rep] at rx ry
      exact .inl (.inl ⟨i, j, rx, ry, d.val rel (by simp [Rep])⟩)
    | _ => exact lists d
  | str i =>
    cases b with
    | str j =>
      simp only [sem2] at d
      obtain ⟨hc, d⟩ := DenR.ite d
      simp only [Rep] at rx ry
      exact .inl (.inr ⟨toS i, toS j, rx, ry, by rw [toS_length, toS_length, ← lineN_eq]; exact hc, d.val rel (by simp [Rep, toS_append])⟩)
    | _ => exact lists d
  | tup i =>
    cases b with
    | tup j =>
      simp only [sem2] at d
      obtain ⟨hc, d⟩ := DenR.ite d
      simp only [Rep] at rx ry
      obtain ⟨p, vs, rfl, q1, r1⟩ := rx
      obtain ⟨p2, vs2, rfl, q2, r2⟩ := ry
      refine .inr (.inr ⟨p, p2, vs, vs2, rfl, rfl, .inl (rel.rd q1), .inl (rel.rd q2), fun e => hc.1 ?_, by rw [← r1.length, ← r2.length, ← lineN_eq]; exact hc.2, fun n => ?_, fun _ q n => ?_⟩)
      · have := r1.length; rw [e] at this; exact List.length_eq_zero_iff.mp this
      · subst n
        have := r2.length
        have e : j = [] := List.length_eq_zero_iff.mp this
        subst e
        rw [List.append_nil] at d
        exact d.val rel (by simp only [Rep]; exact ⟨p, vs, rfl, q1, r1⟩)
      · exact new_tup rel (r1.append r2) d q n
    | _ => exact lists d
  | _ => exact lists d
theorem s_int2 {f : Int → Int → Int} {C : Int → Int → Prop} [∀ i j, Decidable (C i j)] (rel : Rel L ψ φ G H h) (rx : Rep L φ G a x) (ry : Rep L φ G b y)
    (d : DR L ψ W σV φ G (arith C f a b h) Q) : rI C (fun i j => .int (f i j)) x y H Q := by
  cases a with
  | int i =>
    cases b with
    | int j =>
      obtain ⟨hc, d⟩ := DenR.ite d
      simp only [Rep] at rx ry
      exact ⟨i, j, rx, ry, hc, d.val rel (by simp [Rep])⟩
    | _ => exact d.elim
  | _ => exact d.elim
theorem s_sub (rel : Rel L ψ φ G H h) (rx : Rep L φ G a x) (ry : Rep L φ G b y) (d : DR L ψ W σV φ G (sem2 m .sub a b h) Q) : rI0 (fun i j => .int (i - j)) x y H Q := by
  cases a with
  | int i =>
    cases b with
    | int j =>
      simp only [Rep] at rx ry
      exact ⟨i, j, rx, ry, d.val rel (by simp [Rep])⟩
    | _ => exact d.elim
  | _ => exact d.elim
theorem s_mul (rel : Rel L ψ φ G H h) (rx : Rep L φ G a x) (ry : Rep L φ G b y) (d : DR L ψ W σV φ G (sem2 m .mul a b h) Q) : rI CMulW (fun i j => .int (i * j)) x y H Q :=
  s_int2 (C := fun i j => i.natAbs.log2 + j.natAbs.log2 < 1000000) rel rx ry d
theorem s_fdiv (rel : Rel L ψ φ G H h) (rx : Rep L φ G a x) (ry : Rep L φ G b y) (d : DR L ψ W σV φ G (sem2 m .fdiv a b h) Q) : rI CDivW (fun i j => .int (i / j)) x y H Q :=
  s_int2 (C := fun i j => 0 < j ∧ j.natAbs.log2 < 9000) rel rx ry d
theorem s_mod (rel : Rel L ψ φ G H h) (rx : Rep L φ G a x) (ry : Rep L φ G b y) (d : DR L ψ W σV φ G (sem2 m .mod a b h) Q) : rI (fun _ j => 0 < j) (fun i j => .int (i % j)) x y H Q :=
  s_int2 rel rx ry d
theorem s_pow (rel : Rel L ψ φ G H h) (rx : Rep L φ G a x) (ry : Rep L φ G b y) (d : DR L ψ W σV φ G (sem2 m .pow a b h) Q) : rI CPow (fun i j => .int (i ^ j.toNat)) x y H Q :=
  s_int2 (C := fun i j => 0 ≤ j ∧ j ≤ 1000000 ∧ i.natAbs < 2 ^ 64) rel rx ry d
theorem s_shl (rel : Rel L ψ φ G H h) (rx : Rep L φ G a x) (ry : Rep L φ G b y) (d : DR L ψ W σV φ G (sem2 m .shl a b h) Q) : rI CPow (fun i j => .int (i * 2 ^ j.toNat)) x y H Q :=
  s_int2 (C := fun i j => 0 ≤ j ∧ j ≤ 1000000 ∧ i.natAbs < 2 ^ 64) rel rx ry d
theorem s_shr (rel : Rel L ψ φ G H h) (rx : Rep L φ G a x) (ry : Rep L φ G b y) (d : DR L ψ W σV φ G (sem2 m .shr a b h) Q) : rI (fun _ j => 0 ≤ j) (fun i j => .int (i / 2 ^ j.toNat)) x y H Q :=
  s_int2 rel rx ry d

/-! ### comparisons -/
def rEqA (K : PySem.W.Frag) : R2 := fun x y H Q => rEq x y H Q ∨ rEqD K x y H Q
def rNeA (K : PySem.W.Frag) : R2 := fun x y H Q => rNe x y H Q ∨ rNeD K x y H Q
theorem op_eqA {X : Cx} (hu : X.A.units + 64 < cLine) : OpR X (compareOp .Eq) (rEqA X.K) := op_eq.or (op_eqD hu)
theorem op_neA {X : Cx} (hu : X.A.units + 64 < cLine) : OpR X (compareOp .NotEq) (rNeA X.K) := op_ne.or (op_neD hu)
theorem scal_rep (hs : scalD a b = true) (rx : Rep L φ G a x) (ry : Rep L φ G b y) : scal x y = true ∧ decide (x = y) = eqv a b := by
  cases a <;> cases b <;> simp [scalD] at hs <;> simp only [Rep] at rx ry <;> subst rx ry <;> simp [scal, eqv, toS_eq]
  all_goals first | rfl | (rw [Bool.eq_iff_iff]; simp)
theorem shaped_of {d : PyData} (h1 : d.canLay0 = true) (h2 : d.depth ≤ 60) : SeqAt.shaped d = true := by
  unfold SeqAt.shaped
  rw [h1, Bool.true_and]
  exact decide_eq_true (by omega)
theorem s_eq (rel : Rel L ψ φ G H h) (rx : Rep L φ G a x) (ry : Rep L φ G b y) (d : DR L ψ W σV φ G (sem2 m .eq a b h) Q) : rEqA K x y H Q := by
  simp only [sem2, eqD] at d
  by_cases hc : (scalD a b || (plain 60 a && plain 60 b)) = true
  · rw [if_pos hc] at d
    have q : Q (.bl (eqv a b)) H := d.val rel (by simp [Rep])
    rcases (Bool.or_eq_true _ _).mp hc with hs | hs
    · obtain ⟨h1, h2⟩ := scal_rep hs rx ry
      exact .inl ⟨h1, by rw [h2]; exact q⟩
    · rw [Bool.and_eq_true] at hs
      obtain ⟨a1, a2, a3⟩ := plain_dp (K := K) rel hs.1 rx
      obtain ⟨b1, b2, b3⟩ := plain_dp (K := K) rel hs.2 ry
      exact .inr ⟨_, _, a1, b1, shaped_of a2 a3, shaped_of b2 b3, by rw [eqv_py hs.1 hs.2]; exact q⟩
  · rw [if_neg hc] at d
    exact d.elim
theorem s_ne (rel : Rel L ψ φ G H h) (rx : Rep L φ G a x) (ry : Rep L φ G b y) (d : DR L ψ W σV φ G (sem2 m .ne a b h) Q) : rNeA K x y H Q := by
  simp only [sem2, eqD] at d
  by_cases hc : (scalD a b || (plain 60 a && plain 60 b)) = true
  · rw [if_pos hc] at d
    have q : Q (.bl (!eqv a b)) H := d.val rel (by simp [Rep])
    rcases (Bool.or_eq_true _ _).mp hc with hs | hs
    · obtain ⟨h1, h2⟩ := scal_rep hs rx ry
      exact .inl ⟨h1, by rw [h2]; exact q⟩
    · rw [Bool.and_eq_true] at hs
      obtain ⟨a1, a2, a3⟩ := plain_dp (K := K) rel hs.1 rx
      obtain ⟨b1, b2, b3⟩ := plain_dp (K := K) rel hs.2 ry
      exact .inr ⟨_, _, a1, b1, shaped_of a2 a3, shaped_of b2 b3, by rw [eqv_py hs.1 hs.2]; exact q⟩
  · rw [if_neg hc] at d
    exact d.elim
def rCmp (f : Int → Int → Bool) (g : Cs → Cs → Bool) : R2 := fun x y H Q => rI0 (fun i j => .bl (f i j)) x y H Q ∨ ∃ i j, x = .str i ∧ y = .str j ∧ Q (.bl (g i.cps.toList j.cps.toList)) H
theorem op_ltA {X : Cx} : OpR X (compareOp .Lt) (rCmp (fun i j => decide (i < j)) (fun x y => decide (x < y))) := op_lt.or op_lt_str
theorem op_leA {X : Cx} : OpR X (compareOp .LtE) (rCmp (fun i j => decide (i ≤ j)) (fun x y => !decide (y < x))) := op_le.or op_le_str
theorem op_gtA {X : Cx} : OpR X (compareOp .Gt) (rCmp (fun i j => decide (j < i)) (fun x y => decide (y < x))) := op_gt.or op_gt_str
theorem op_geA {X : Cx} : OpR X (compareOp .GtE) (rCmp (fun i j => decide (j ≤ i)) (fun x y => !decide (x < y))) := op_ge.or op_ge_str
theorem s_cmp {f : Int → Int → Bool} {g : Cs → Cs → Bool} (rel : Rel L ψ φ G H h) (rx : Rep L φ G a x) (ry : Rep L φ G b y) (d : DR L ψ W σV φ G (cmpI f g a b h) Q) : rCmp f g x y H Q := by
  cases a with
  | int i =>
    cases b with
    | int j =>
      simp only [Rep] at rx ry
      exact .inl ⟨i, j, rx, ry, d.val rel (by simp [Rep])⟩
    | _ => exact d.elim
  | str i =>
    cases b with
    | str j =>
      simp only [Rep] at rx ry
      refine .inr ⟨toS i, toS j, rx, ry, ?_⟩
      have q : Q (.bl (g i j)) H := d.val rel (by simp [Rep])
      simpa [toS] using q
    | _ => exact d.elim
  | _ => exact d.elim
def rIsA : R2 := fun x y H Q => rIsB x y H Q ∨ (y = .non ∧ Q (.bl (decide (x = .non))) H)
def rNotA : R2 := fun x y H Q => rNotB x y H Q ∨ (y = .non ∧ Q (.bl (!decide (x = .non))) H)
theorem op_isA {X : Cx} : OpR X (compareOp .Is) rIsA := op_isBl.or op_isN
theorem op_notA {X : Cx} : OpR X (compareOp .IsNot) rNotA := op_notBl.or op_notN
theorem isD_rep {k : Bool} (e : isD a b = some k) (rx : Rep L φ G a x) (ry : Rep L φ G b y) : (∃ i j, x = .bl i ∧ y = .bl j ∧ decide (i = j) = k) ∨ (y = .non ∧ decide (x = .non) = k) := by
  cases b with
  | bl j =>
    cases a with
    | bl i =>
      simp only [isD, Option.some.injEq] at e
      simp only [Rep] at rx ry
      exact .inl ⟨i, j, rx, ry, e⟩
    | _ => simp [isD] at e
  | non =>
    simp only [Rep] at ry
    refine .inr ⟨ry, ?_⟩
    cases a <;> simp [isD] at e <;> subst e <;> simp only [Rep] at rx
    all_goals first | (subst rx; rfl) | (obtain ⟨_, _, rfl, _⟩ := rx; rfl) | (obtain ⟨_, rfl, _⟩ := rx; rfl) | (obtain ⟨_, _, _, rfl, _⟩ := rx; rfl)
  | _ => cases a <;> simp [isD] at e
theorem s_is (rel : Rel L ψ φ G H h) (rx : Rep L φ G a x) (ry : Rep L φ G b y) (d : DR L ψ W σV φ G (sem2 m .isA a b h) Q) : rIsA x y H Q := by
  simp only [sem2] at d
  cases e : isD a b with
  | none => rw [e] at d; exact d.elim
  | some k =>
    rw [e] at d
    have q : Q (.bl k) H := d.val rel (by simp [Rep])
    rcases isD_rep e rx ry with ⟨i, j, h1, h2, h3⟩ | ⟨h1, h2⟩
    · exact .inl ⟨i, j, h1, h2, by rw [h3]; exact q⟩
    · exact .inr ⟨h1, by rw [h2]; exact q⟩
theorem s_isnot (rel : Rel L ψ φ G H h) (rx : Rep L φ G a x) (ry : Rep L φ G b y) (d : DR L ψ W σV φ G (sem2 m .isnot a b h) Q) : rNotA x y H Q := by
  simp only [sem2] at d
  cases e : isD a b with
  | none => rw [e] at d; exact d.elim
  | some k =>
    rw [e] at d
    have q : Q (.bl (!k)) H := d.val rel (by simp [Rep])
    rcases isD_rep e rx ry with ⟨i, j, h1, h2, h3⟩ | ⟨h1, h2⟩
    · exact .inl ⟨i, j, h1, h2, by rw [h3]; exact q⟩
    · exact .inr ⟨h1, by rw [h2]; exact q⟩
end
end FV

set_option maxRecDepth 100000
/-! Membership, subscripts, slices, methods, built-in functions. -/
namespace FV
open PySem PySem.Spec L2
variable {L : Lw} {ψ : List (Addr × HO)}

section
variable {W : WX} {σV : L2.St} {φ : List Addr} {G H : Hp} {h : Hb} {Q : VK} {K : PySem.W.Frag} {a b : D} {x y : V} {m : Nat}
/-! ### in -/
theorem memK_eq {ks : List Kk} {k : Kk} : memK ks (kK k) = decide (k ∈ ks) := by
  unfold memK
  rw [Bool.eq_iff_iff]
  simp only [List.any_eq_true, decide_eq_true_eq]
  exact ⟨fun ⟨j, hj, e⟩ => by rw [kK_inj e]; exact hj, fun hk => ⟨k, hk, rfl⟩⟩
theorem keyD_rep {k : Kk} (e : keyD a = some k) (r : Rep L φ G a x) : x = kV (kK k) := by
  cases a <;> simp [keyD] at e <;> subst e <;> simp only [Rep] at r <;> subst r <;> rfl
theorem getD_val : ∀ {ks : List Kk} {ds : List D} {vs : List V} {k : Kk}, Reps L φ G ds vs → ks.length = ds.length →
    (∀ d, getD ks ds k = some d → ∃ v, valV ((ks.map kK).zip vs) (kK k) = some v ∧ Rep L φ G d v) ∧ (valV ((ks.map kK).zip vs) (kK k)).isSome = decide (k ∈ ks)
  | [], [], vs, k, r, _ => by simp only [Reps] at r; subst r; exact ⟨fun d e => by simp [getD] at e, rfl⟩
  | [], _ :: _, _, _, _, e => by simp at e
  | _ :: _, [], _, _, _, e => by simp at e
  | j :: ks, d0 :: ds, vs, k, r, e => by
    simp only [Reps] at r
    obtain ⟨v, t, rfl, r1, r2⟩ := r
    obtain ⟨ih1, ih2⟩ := getD_val (k := k) r2 (by simpa using e)
    by_cases hj : j = k
    · subst hj
      refine ⟨fun d q => ?_, ?_⟩
      · simp only [getD, if_true] at q
        cases q
        exact ⟨v, valV_pos rfl, r1⟩
      · show (valV ((kK j, v) :: _) _).isSome = _
        rw [valV_pos rfl]
        simp
    · have hk : ¬ (kK j = kK k) := fun z => hj (kK_inj z)
      refine ⟨fun d q => ?_, ?_⟩
      · simp only [getD, if_neg hj] at q
        obtain ⟨v', e1, e2⟩ := ih1 d q
        exact ⟨v', by show valV ((kK j, v) :: _) _ = _; rw [valV_neg hk]; exact e1, e2⟩
      · show (valV ((kK j, v) :: _) _).isSome = _
        rw [valV_neg hk]
        refine ih2.trans ?_
        rw [Bool.eq_iff_iff]
        simp [Ne.symm hj]
def rDIn (neg : Bool) : R2 := fun y x H Q => ∃ a o, x = .ref a ∧ DGet H a y o ∧ Q (.bl (if neg then !o.isSome else o.isSome)) H
theorem op_inDict {X : Cx} (hu : X.A.units + 1 < cLine) : OpR X (compareOp .In) (rDIn false) := by
  intro pins s σ H x y v u Q I rx ry h
  obtain ⟨p, o, rfl, g, q⟩ := h
  cases ry
  exact d_in hu I g rx fun s' I' => ⟨.bl o.isSome, H, I', rfl, q⟩
theorem op_notInDict {X : Cx} (hu : X.A.units + 1 < cLine) : OpR X (compareOp .NotIn) (rDIn true) := by
  intro pins s σ H x y v u Q I rx ry h
  obtain ⟨p, o, rfl, g, q⟩ := h
  cases ry
  exact d_notIn hu I g rx fun s' I' => ⟨.bl (!o.isSome), H, I', rfl, q⟩
def rSInR (P : Program) (w : World) (neg : Bool) : R2 := fun x y H Q => ∃ (k : Key) (a : Addr) (S : Key → Bool) (n : Nat), x = kV k ∧ y = V.ref a ∧ Rd H a (SetK P w a S n) ∧ Q (.bl (if neg then !S k else S k)) H
theorem setR_get {X : Cx} {pins : List (Addr × Obj)} {σ : L2.St} {H : Hp} {s : Shared} {a : Addr} {S : Key → Bool} {n : Nat} (I : Inv X pins σ H s) (ha : Rd H a (SetK X.prog X.w a S n)) : s.heap.SetOf (mixKind X.prog X.w) a S n :=
  (ha.ok I.hok).1
theorem op_inSet {X : Cx} : OpR X (compareOp .In) (rSInR X.prog X.w false) := by
  intro pins s σ H x y v u Q I rx ry h
  obtain ⟨k, a, S, n, rfl, rfl, ha, q⟩ := h
  cases ry
  exact wpAny_inSet_of (kV_is rx) (key_scan rx) (setR_get I ha) ⟨.bl (S k), H, I.tok _, rfl, q⟩
theorem op_notInSet {X : Cx} : OpR X (compareOp .NotIn) (rSInR X.prog X.w true) := by
  intro pins s σ H x y v u Q I rx ry h
  obtain ⟨k, a, S, n, rfl, rfl, ha, q⟩ := h
  cases ry
  exact wpAny_notInSet_of (kV_is rx) (key_scan rx) (setR_get I ha) ⟨.bl (!S k), H, I.tok _, rfl, q⟩
def rInA (P : Program) (w : World) (K : PySem.W.Frag) (neg : Bool) : R2 := fun x y H Q =>
  (rIn K neg x y H Q ∨ (if neg then rNotInD K else rInD K) x y H Q) ∨ (rDIn neg x y H Q ∨ rSInR P w neg x y H Q)
theorem op_inA {X : Cx} (hu : X.A.units + 65 < cLine) : OpR X (compareOp .In) (rInA X.prog X.w X.K false) := (op_in_seq.or (op_inD hu)).or ((op_inDict (by omega)).or op_inSet)
theorem op_notInA {X : Cx} (hu : X.A.units + 65 < cLine) : OpR X (compareOp .NotIn) (rInA X.prog X.w X.K true) := (op_notIn_seq.or (op_notInD hu)).or ((op_notInDict (by omega)).or op_notInSet)
theorem anyD_py : ∀ {xs : List D} {n m : Nat} {d : D}, plains n xs = true → plain m d = true → ((pys xs).any fun z => PyData.eqv z (py d)) = xs.any fun z => eqv z d
  | [], _, _, _, _, _ => rfl
  | e :: xs, n, m, d, p, q => by
    simp only [plains, Bool.and_eq_true] at p
    simp only [pys, List.any_cons]
    rw [eqv_py p.1 q, anyD_py p.2 q]
theorem inD_rep {neg k : Bool} (rel : Rel L ψ φ G H h) (rx : Rep L φ G a x) (ry : Rep L φ G b y) (e : inD h a b = some k) (q : Q (.bl (if neg then !k else k)) H) : rInA L.P L.w K neg x y H Q := by
  unfold inD at e
  split at e
  · rename_i ks e1
    obtain ⟨p, rfl, nd, r⟩ := setV_rep rel ry e1
    rw [Option.map_eq_some_iff] at e
    obtain ⟨k', e2, rfl⟩ := e
    refine .inr (.inr ⟨kK k', p, _, _, keyD_rep e2 rx, rfl, r, ?_⟩)
    rw [memK_eq]
    exact q
  · split at e
    · rename_i xs e1
      obtain ⟨p, vs, rfl, r, rs⟩ := seqL_rep rel ry e1
      split at e
      · rename_i hf
        rw [Bool.and_eq_true] at hf
        cases e
        refine .inl (.inl ⟨p, vs, rfl, .inl (.inl r), flat_rep hf.1 rx, flats_rep hf.2 rs, ?_⟩)
        rw [inV_rep hf.1 hf.2 rx rs]
        exact q
      · split at e
        · rename_i hp
          rw [Bool.and_eq_true] at hp
          cases e
          obtain ⟨a1, a2, a3⟩ := plain_dp (K := K) rel hp.1 rx
          obtain ⟨b1, b2, b3⟩ := plains_dp (K := K) rel hp.2 rs
          have sh : SeqAt.shaped (.list (pys xs)) = true := by
            unfold SeqAt.shaped
            simp only [PyData.canLay0, PyData.depth, b2, Bool.true_and]
            exact decide_eq_true (by omega)
          refine .inl (.inr ?_)
          cases neg with
          | false => exact ⟨_, _, a1, .lst (.inl r) b1, shaped_of a2 a3, sh, by rw [anyD_py hp.2 hp.1]; exact q⟩
          | true => exact ⟨_, _, a1, .lst (.inl r) b1, shaped_of a2 a3, sh, by rw [anyD_py hp.2 hp.1]; exact q⟩
        · cases e
    · split at e
      · rename_i xs _ _
        split at e
        · rename_i hf
          rw [Bool.and_eq_true] at hf
          cases e
          simp only [Rep] at ry
          obtain ⟨p, vs, rfl, r, rs⟩ := ry
          refine .inl (.inl ⟨p, vs, rfl, .inr (.inl (rel.rd r)), flat_rep hf.1 rx, flats_rep hf.2 rs, ?_⟩)
          rw [inV_rep hf.1 hf.2 rx rs]
          exact q
        · cases e
      · split at e
        · rename_i ks ds e1
          obtain ⟨p, vs, rfl, hl, nd, r, rs⟩ := dicV_rep rel ry e1
          rw [Option.map_eq_some_iff] at e
          obtain ⟨k', e2, rfl⟩ := e
          refine .inr (.inl ⟨p, _, rfl, .inl ⟨_, kK k', r, keyD_rep e2 rx, rfl⟩, ?_⟩)
          rw [(getD_val rs hl).2]
          exact q
        · cases e
theorem s_in (rel : Rel L ψ φ G H h) (rx : Rep L φ G a x) (ry : Rep L φ G b y) (d : DR L ψ W σV φ G (sem2 m .inn a b h) Q) : rInA L.P L.w K false x y H Q := by
  simp only [sem2] at d
  cases e : inD h a b with
  | none => rw [e] at d; exact d.elim
  | some k =>
    rw [e] at d
    exact inD_rep (neg := false) rel rx ry e (d.val rel (by simp [Rep]))
theorem s_notin (rel : Rel L ψ φ G H h) (rx : Rep L φ G a x) (ry : Rep L φ G b y) (d : DR L ψ W σV φ G (sem2 m .notin a b h) Q) : rInA L.P L.w K true x y H Q := by
  simp only [sem2] at d
  cases e : inD h a b with
  | none => rw [e] at d; exact d.elim
  | some k =>
    rw [e] at d
    exact inD_rep (neg := true) rel rx ry e (d.val rel (by simp [Rep]))

/-! ### subscripts -/
def rIxDt : R2 := fun x y H Q => ∃ a v, x = .ref a ∧ DGet H a y (some v) ∧ Q v H
theorem ix_dict {X : Cx} (hu : X.A.units + 1 < cLine) : IxR X rIxDt := by
  intro value slice pins s σ H x y v u Q I rx ry h hs
  obtain ⟨a, w', rfl, g, q⟩ := h
  cases rx
  exact PyProof.Rows.tail_any (dict_typeIs I g) PySem.F.slot_dict_getitem.lookup (d_getItem hu I g ry fun z s' I' rz => ⟨w', H, I', rz, q⟩) hs
def rIxA (K : PySem.W.Frag) : R2 := fun x y H Q => rIx K x y H Q ∨ rIxDt x y H Q
theorem ix_all {X : Cx} (hu : X.A.units + 1 < cLine) : IxR X (rIxA X.K) := ix_seq.or (ix_dict hu)
theorem atI_rep {xs : List D} {vs : List V} {i : Int} {d : D} (rs : Reps L φ G xs vs) (e : atI xs i = some d) : ∃ v, atI vs i = some v ∧ Rep L φ G d v := by
  unfold atI at e ⊢
  rw [← rs.length]
  cases q : ixN xs.length i with
  | none => rw [q] at e; cases e
  | some j =>
    rw [q] at e
    exact rs.get e
theorem s_ix (rel : Rel L ψ φ G H h) (rx : Rep L φ G a x) (ry : Rep L φ G b y) (d : DR L ψ W σV φ G (sem2 m .ix a b h) Q) : rIxA K x y H Q := by
  simp only [sem2, ixD] at d
  split at d
  · rename_i i
    simp only [Rep] at ry
    subst ry
    split at d
    · rename_i xs e
      obtain ⟨p, vs, rfl, r, rs⟩ := seqL_rep rel rx e
      split at d
      · rename_i z e2
        obtain ⟨v, e3, rv⟩ := atI_rep rs e2
        exact .inl (.inl ⟨p, vs, i, v, rfl, rfl, .inl r, e3, d.val rel rv⟩)
      · exact d.elim
    · split at d
      · rename_i xs _
        simp only [Rep] at rx
        obtain ⟨p, vs, rfl, r, rs⟩ := rx
        split at d
        · rename_i z e2
          obtain ⟨v, e3, rv⟩ := atI_rep rs e2
          exact .inl (.inr (.inl ⟨p, vs, i, v, rfl, rfl, .inl (rel.rd r), e3, d.val rel rv⟩))
        · exact d.elim
      · rename_i z _
        simp only [Rep] at rx
        subst rx
        split at d
        · rename_i hz
          split at d
          · rename_i c e2
            exact .inl (.inr (.inr ⟨toS z, i, c, rfl, rfl, by rw [toS_length, ← lineN_eq]; exact hz, by simpa [toS] using e2, d.val rel (by simp [Rep, toS])⟩))
          · exact d.elim
        · exact d.elim
      · split at d
        · rename_i ks ds e
          obtain ⟨p, vs, rfl, hl, nd, r, rs⟩ := dicV_rep rel rx e
          split at d
          · rename_i z e2
            obtain ⟨v, e3, rv⟩ := (getD_val rs hl).1 _ e2
            exact .inr ⟨p, v, rfl, .inl ⟨_, _, r, rfl, e3.symm⟩, d.val rel rv⟩
          · exact d.elim
        · exact d.elim
  · rename_i z
    simp only [Rep] at ry
    subst ry
    split at d
    · rename_i ks ds e
      obtain ⟨p, vs, rfl, hl, nd, r, rs⟩ := dicV_rep rel rx e
      split at d
      · rename_i z e2
        obtain ⟨v, e3, rv⟩ := (getD_val rs hl).1 _ e2
        exact .inr ⟨p, v, rfl, .inl ⟨_, _, r, rfl, e3.symm⟩, d.val rel rv⟩
      · exact d.elim
    · exact d.elim
  · exact d.elim

/-! ### slices -/
def rSlLR : V → Option Int → Option Int → Hp → VK → Prop := fun x lo hi H Q => ∃ a xs, x = .ref a ∧ Rd H a (.lst xs) ∧ ∀ p, H p = none → Q (.ref p) (upd H p (.lst (cutV xs lo hi)))
def rSlA (K : PySem.W.Frag) : V → Option Int → Option Int → Hp → VK → Prop := fun x lo hi H Q => rSlL K x lo hi H Q ∨ (rSlT K x lo hi H Q ∨ rSlS x lo hi H Q)
theorem sl_all {X : Cx} : SlR X (rSlA X.K) := sl_list.or (sl_tup.or sl_str)
theorem cut_rep {xs : List D} {vs : List V} {lo hi : Option Int} (rs : Reps L φ G xs vs) : Reps L φ G (cut xs lo hi) (cutV vs lo hi) := by
  unfold cut cutV
  rw [← rs.length]
  exact (rs.drop _).take _
theorem s_slice {lo hi : Option Int} (rel : Rel L ψ φ G H h) (rx : Rep L φ G a x) (d : DR L ψ W σV φ G (slice a lo hi h) Q) : rSlA K x lo hi H Q := by
  unfold slice at d
  split at d
  · rename_i xs e
    obtain ⟨p, vs, rfl, r, rs⟩ := seqL_rep rel rx e
    exact .inl ⟨p, vs, rfl, .inl r, fun q n => new_lst (b := false) rel (cut_rep rs) d q n⟩
  · split at d
    · rename_i z _
      obtain ⟨hc, d⟩ := DenR.ite d
      simp only [Rep] at rx
      refine .inr (.inr ⟨toS z, rx, by rw [toS_length, ← lineN_eq]; exact hc, ?_⟩)
      exact d.val rel (by simp [Rep, cutS, cut, toS, Str.length])
    · rename_i xs _
      split at d
      · exact d.elim
      · rename_i hc
        simp only [Rep] at rx
        obtain ⟨p, vs, rfl, r, rs⟩ := rx
        exact .inr (.inl ⟨p, vs, rfl, .inl (rel.rd r), by rw [← rs.length]; exact hc, fun q n => new_tup rel (cut_rep rs) d q n⟩)
    · exact d.elim

/-! ### methods -/
theorem s_append {o : D} (rel : Rel L ψ φ G H h) (rx : Rep L φ G o x) (ry : Rep L φ G b y) (d : DR L ψ W σV φ G (sem2 m .append o b h) Q) : rAppend x [y] H Q := by
  simp only [sem2, appB] at d
  split at d
  · rename_i i
    split at d
    · rename_i xs e
      obtain ⟨hc, d⟩ := DenR.ite d
      obtain ⟨p, vs, rfl, ep, hv, rs⟩ := box_lst rel rx e
      refine ⟨p, vs, y, rfl, rfl, hv, by rw [← rs.length, ← lineN_eq]; exact hc.1, ?_⟩
      exact d φ G _ .non (List.prefix_refl _) RLe.refl (rel.write e ep ⟨_, upd_same, rs.append (Reps.cons ry Reps.nil)⟩) (by simp [Rep])
    · exact d.elim
  · exact d.elim
theorem s_pop (rel : Rel L ψ φ G H h) (rx : Rep L φ G a x) (d : DR L ψ W σV φ G (sem1 .pop a h) Q) : rPop x [] H Q := by
  simp only [sem1, popB] at d
  split at d
  · rename_i i
    split at d
    · rename_i xs e
      split at d
      · rename_i z ez
        obtain ⟨p, vs, rfl, ep, hv, rs⟩ := box_lst rel rx e
        obtain ⟨v, ev, rv⟩ := rs.get ez
        refine ⟨p, vs, v, rfl, rfl, hv, by rw [← rs.length]; exact ev, ?_⟩
        exact d φ G _ v (List.prefix_refl _) RLe.refl (rel.write e ep ⟨_, upd_same, rs.dropLast⟩) rv
      · exact d.elim
    · exact d.elim
  · exact d.elim
theorem memK_add {ks : List Kk} {k : Kk} : memK (if k ∈ ks then ks else ks ++ [k]) = fun j => memK ks j || decide (j = kK k) := by
  funext j
  by_cases hc : k ∈ ks
  · rw [if_pos hc]
    by_cases hj : j = kK k
    · subst hj
      simp [memK_eq, hc]
    · simp [hj]
  · rw [if_neg hc]
    simp [memK]
theorem box_set {i : Nat} {v : V} {ks : List Kk} (rel : Rel L ψ φ G H h) (r : Rep L φ G (.box i) v) (e : bx h i = some (.set ks)) : ∃ p, v = .ref p ∧ φ[i]? = some p ∧ ks.Nodup ∧ H p = some (SetK L.P L.w p (memK ks) ks.length) := by
  simp only [Rep] at r
  obtain ⟨a, rfl, ea⟩ := r
  obtain ⟨b, eb, nd, hv⟩ := rel.box i _ e
  rw [ea] at eb; cases eb
  exact ⟨a, rfl, ea, nd, hv⟩
theorem s_sadd {o : D} (rel : Rel L ψ φ G H h) (rx : Rep L φ G o x) (ry : Rep L φ G b y) (d : DR L ψ W σV φ G (sem2 m .sadd o b h) Q) : rSAddK L.P L.w x [y] H Q := by
  simp only [sem2, saddB] at d
  split at d
  · rename_i i k ek
    split at d
    · rename_i ks e
      obtain ⟨hc, d⟩ := DenR.ite d
      obtain ⟨p, rfl, ep, nd, hv⟩ := box_set rel rx e
      refine ⟨p, kK k, _, _, rfl, by rw [keyD_rep ek ry], hv, by show ks.length + 1 < 4096; exact hc, ?_⟩
      refine d φ G _ .non (List.prefix_refl _) RLe.refl (rel.write e ep ⟨?_, ?_⟩) (by simp [Rep])
      · split
        · exact nd
        · rename_i hk
          rw [List.nodup_append]
          refine ⟨nd, by simp, fun a ha c hc e => ?_⟩
          rw [List.mem_singleton] at hc
          subst hc e
          exact hk ha
      · rw [upd_same, memK_add, memK_eq]
        by_cases hk : k ∈ ks
        · simp [hk]
        · simp [hk]
    · exact d.elim
  · exact d.elim
theorem startswith_eq {u v : Cs} : Txt.startswith (toS u) (toS v) = v.isPrefixOf u := by
  unfold Txt.startswith
  rw [StrLaws.subAt_eq, Bool.eq_iff_iff]
  simp only [Bool.and_eq_true, decide_eq_true_eq, toS_length, List.drop_zero, beq_iff_eq, List.isPrefixOf_iff_prefix]
  have e1 : (toS u).cps.toList = u := by simp [toS]
  have e2 : (toS v).cps.toList = v := by simp [toS]
  rw [e1, e2]
  constructor
  · intro h
    rw [← h.2]
    exact List.take_prefix _ _
  · intro h
    exact ⟨by have := h.length_le; omega, (List.prefix_iff_eq_take.mp h).symm⟩
theorem s_starts (rel : Rel L ψ φ G H h) (rx : Rep L φ G a x) (ry : Rep L φ G b y) (d : DR L ψ W σV φ G (sem2 m .starts a b h) Q) : ∃ u v, x = .str u ∧ [y] = [.str v] ∧ Q (.bl (Txt.startswith u v)) H := by
  cases a with
  | str u =>
    cases b with
    | str v =>
      simp only [Rep] at rx ry
      subst rx ry
      exact ⟨_, _, rfl, rfl, by rw [startswith_eq]; exact d.val rel (by simp [Rep])⟩
    | _ => exact d.elim
  | _ => exact d.elim
theorem s_index (rel : Rel L ψ φ G H h) (rx : Rep L φ G a x) (ry : Rep L φ G b y) (d : DR L ψ W σV φ G (sem2 m .index a b h) Q) :
    ∃ u v i rest, x = .str u ∧ [y] = [.str v] ∧ Builtin.Str.occurrences u v 0 u.length 1 = i :: rest ∧ Q (.int (i : Nat)) H := by
  simp only [sem2] at d
  split at d
  · rename_i u c
    obtain ⟨hc, d⟩ := DenR.ite d
    simp only [Rep] at rx ry
    subst rx ry
    have f := StrLaws.found_one (toS u) c
    have e1 : (toS u).cps.toList = u := by simp [toS]
    rw [e1, decide_eq_true hc.2] at f
    cases eo : Builtin.Str.occurrences (toS u) ⟨#[c]⟩ 0 (toS u).length 1 with
    | nil => rw [eo] at f; simp at f
    | cons i rest =>
      refine ⟨toS u, toS [c], i, rest, rfl, rfl, eo, ?_⟩
      have sp := StrLaws.occ_spec (toS u) ⟨#[c]⟩ 0 (toS u).length 1 i (by rw [eo]; simp)
      have g := (StrLaws.subAt_one (toS u) c i).mp sp
      rw [e1] at g
      have hi : i = u.idxOf c := by
        obtain ⟨hl, ge⟩ := List.getElem?_eq_some_iff.mp g
        have := List.Nodup.idxOf_getElem hc.1 i hl
        rw [ge] at this
        exact this.symm
      rw [hi]
      exact d.val rel (by simp [Rep])
  · exact d.elim
end
end FV

set_option maxRecDepth 100000
/-! Built-in functions of one or two values; truth. -/
namespace FV
open PySem PySem.Spec L2
variable {L : Lw} {ψ : List (Addr × HO)}

def tyN : Ty → String
  | .int => "int" | .bool => "bool" | .str => "str" | .list => "list" | .tuple => "tuple" | .dict => "dict" | .set => "set"
/-- len of a text, a list, a tuple, a set, a dict -/
def LenA (P : Program) (w : World) (K : PySem.W.Frag) (z : V) (H : Hp) (n : Nat) : Prop := LenV K z H n ∨ ∃ p, z = .ref p ∧ ((∃ S, Rd H p (SetK P w p S n)) ∨ ∃ kvs, Rd H p (.dK kvs) ∧ n = kvs.length)
theorem call_lenA {X : Cx} : CallR X (.builtin "len") (fun xs H Q => ∃ z n, xs = [z] ∧ LenA X.prog X.w X.K z H n ∧ Q (.int n) H) := by
  intro pins s σ H xs us Q I r h
  obtain ⟨z, n, rfl, e, q⟩ := h
  rcases e with e | ⟨p, rfl, ⟨S, e⟩ | ⟨kvs, e, rfl⟩⟩
  · exact call_len pins s σ H _ us Q I r ⟨z, n, rfl, e, q⟩
  · obtain ⟨u, rfl, rx⟩ := vals1 r
    cases rx
    obtain ⟨o, es, ep, t, ho, hex, hd, _, _, hb, hf, hn⟩ := (show s.heap.SetOf (mixKind X.prog X.w) p S n from (rd_of I.hok e).1)
    subst hn
    have hz : (es.size : Int) < 2 ^ 63 := by unfold scanBound at hb; omega
    exact PySem.call_len_set ho hex hd hf hz ⟨.int es.size, H, I.tok _, ⟨_, rfl⟩, q⟩
  · obtain ⟨u, rfl, rx⟩ := vals1 r
    cases rx
    exact d_len I e fun t s' I' => ⟨.int kvs.length, H, I', ⟨t, rfl⟩, q⟩
/-- what isinstance says of the built-in types -/
structure KitOk (K : PySem.W.Frag) : Prop where
  non : ∀ t, PySem.W.kitOne K (.type "NoneType") (.type (tyN t)) = some false
  ty : ∀ u t, PySem.W.kitOne K (.type (tyN u)) (.type (tyN t)) = some (decide (u = t) || (decide (u = .bool) && decide (t = .int)))

section
variable {W : WX} {σV : L2.St} {φ : List Addr} {G H : Hp} {h : Hb} {Q : VK} {K : PySem.W.Frag} {a b : D} {x y : V} {m : Nat}
theorem s_len (rel : Rel L ψ φ G H h) (rx : Rep L φ G a x) (d : DR L ψ W σV φ G (sem1 .len a h) Q) : ∃ z n, [x] = [z] ∧ LenA L.P L.w K z H n ∧ Q (.int n) H := by
  simp only [sem1] at d
  split at d
  · rename_i xs e
    obtain ⟨p, vs, rfl, r, rs⟩ := seqL_rep rel rx e
    exact ⟨_, xs.length, rfl, .inl (.inl ⟨vs, .inl r, rs.length⟩), d.val rel (by simp [Rep])⟩
  · split at d
    · rename_i xs _
      simp only [Rep] at rx
      obtain ⟨p, vs, rfl, r, rs⟩ := rx
      exact ⟨_, xs.length, rfl, .inl (.inr ⟨vs, .inl (rel.rd r), rs.length⟩), d.val rel (by simp [Rep])⟩
    · rename_i z _
      obtain ⟨hc, d⟩ := DenR.ite d
      simp only [Rep] at rx
      subst rx
      exact ⟨_, z.length, rfl, .inl ⟨by rw [toS_length, ← lineN_eq]; exact hc, by rw [toS_length]⟩, d.val rel (by simp [Rep])⟩
    · split at d
      · rename_i ks e
        obtain ⟨p, rfl, _, r⟩ := setV_rep rel rx e
        exact ⟨_, ks.length, rfl, .inr ⟨p, rfl, .inl ⟨_, r⟩⟩, d.val rel (by simp [Rep])⟩
      · split at d
        · rename_i ks ds e
          obtain ⟨p, vs, rfl, hlen, nd, rd, rs⟩ := dicV_rep rel rx e
          exact ⟨_, ks.length, rfl, .inr ⟨p, rfl, .inr ⟨_, rd, by rw [List.length_zip, List.length_map, hlen, rs.length, Nat.min_self]⟩⟩, d.val rel (by simp [Rep])⟩
        · exact d.elim
theorem istr_eq {i : Int} : toS (istr i) = (toString i : Str) := by
  unfold istr toS
  simp
theorem s_strI (rel : Rel L ψ φ G H h) (rx : Rep L φ G a x) (d : DR L ψ W σV φ G (sem1 .strI a h) Q) : ∃ i, [x] = [.int i] ∧ i.natAbs.log2 < 1920 ∧ Q (.str (toString i)) H := by
  cases a with
  | int i =>
    simp only [sem1] at d
    obtain ⟨hc, d⟩ := DenR.ite d
    simp only [Rep] at rx
    subst rx
    exact ⟨i, rfl, hc, d.val rel (by simp only [Rep]; rw [istr_eq])⟩
  | _ => exact d.elim
theorem s_intI (rel : Rel L ψ φ G H h) (rx : Rep L φ G a x) (d : DR L ψ W σV φ G (sem1 .intI a h) Q) : (∃ i, [x] = [.int i] ∧ Q (.int i) H) ∨ ∃ k, [x] = [.bl k] ∧ Q (.int (if k then 1 else 0)) H := by
  cases a with
  | int i =>
    simp only [Rep] at rx
    subst rx
    exact .inl ⟨i, rfl, d.val rel (by simp [Rep])⟩
  | bl k =>
    simp only [Rep] at rx
    subst rx
    exact .inr ⟨k, rfl, d.val rel (by simp [Rep])⟩
  | _ => exact d.elim
/-- list(x) -/
def rListA (K : PySem.W.Frag) : List V → Hp → VK → Prop := fun xs H Q =>
  (∃ p ys, xs = [.ref p] ∧ (SqL K H p ys ∨ SqT K H p ys) ∧ ∀ l, H l = none → Q (.ref l) (upd H l (.lst ys))) ∨
    ∃ (a : Addr) (kvs : List (Key × V)), xs = [.ref a] ∧ Rd H a (.dK kvs) ∧ ∀ p, H p = none → Q (.ref p) (upd H p (.lst (kvs.map fun kv => kV kv.1)))
theorem call_listA {X : Cx} (hc : X.calm = true) : CallR X (.type "list") (rListA X.K) := call_list_of.or (call_listD hc)
theorem keys_map : ∀ {ks : List Kk} {vs : List V}, ks.length = vs.length → (((ks.map kK).zip vs).map fun kv => kV kv.1) = ks.map fun k => kV (kK k)
  | [], _, _ => rfl
  | _ :: _, [], e => by simp at e
  | k :: ks, v :: vs, e => by
    simp only [List.map_cons, List.zip_cons_cons]
    rw [keys_map (by simpa using e)]
theorem s_list {c : Bool} (rel : Rel L ψ φ G H h) (rx : Rep L φ G a x) (d : DR L ψ W σV φ G (sem1 (.list c) a h) Q) : rListA K [x] H Q := by
  simp only [sem1] at d
  split at d
  · rename_i xs e
    obtain ⟨p, vs, rfl, r, rs⟩ := seqL_rep rel rx e
    exact .inl ⟨p, vs, rfl, .inl (.inl r), fun q n => new_lst rel rs d q n⟩
  · split at d
    · rename_i xs _
      simp only [Rep] at rx
      obtain ⟨p, vs, rfl, r, rs⟩ := rx
      exact .inl ⟨p, vs, rfl, .inr (.inl (rel.rd r)), fun q n => new_lst rel rs d q n⟩
    · split at d
      · rename_i ks ds e
        obtain ⟨p, vs, rfl, hl, nd, r, rs⟩ := dicV_rep rel rx e
        refine .inr ⟨p, _, rfl, r, fun q n => ?_⟩
        rw [keys_map (hl.trans rs.length)]
        exact new_lst rel reps_keys d q n
      · exact d.elim
theorem s_all (rel : Rel L ψ φ G H h) (rx : Rep L φ G a x) (d : DR L ψ W σV φ G (sem1 .all a h) Q) : rAll K [x] H Q := by
  simp only [sem1] at d
  split at d
  · rename_i bs e
    rw [Option.bind_eq_some_iff] at e
    obtain ⟨xs, e1, e2⟩ := e
    obtain ⟨p, vs, rfl, r, rs⟩ := seqL_rep rel rx e1
    exact ⟨p, bs, rfl, by rw [← reps_bools rs e2]; exact .inl r, d.val rel (by simp [Rep])⟩
  · exact d.elim
theorem s_any (rel : Rel L ψ φ G H h) (rx : Rep L φ G a x) (d : DR L ψ W σV φ G (sem1 .any a h) Q) : rAny K [x] H Q := by
  simp only [sem1] at d
  split at d
  · rename_i bs e
    rw [Option.bind_eq_some_iff] at e
    obtain ⟨xs, e1, e2⟩ := e
    obtain ⟨p, vs, rfl, r, rs⟩ := seqL_rep rel rx e1
    exact ⟨p, bs, rfl, by rw [← reps_bools rs e2]; exact .inl r, d.val rel (by simp [Rep])⟩
  · exact d.elim
theorem s_sum (rel : Rel L ψ φ G H h) (rx : Rep L φ G a x) (d : DR L ψ W σV φ G (sem1 .sum1 a h) Q) : rSum K [x] H Q := by
  simp only [sem1] at d
  split at d
  · rename_i zs e
    rw [Option.bind_eq_some_iff] at e
    obtain ⟨xs, e1, e2⟩ := e
    obtain ⟨p, vs, rfl, r, rs⟩ := seqL_rep rel rx e1
    exact ⟨p, zs, rfl, by rw [← reps_ints rs e2]; exact .inl r, d.val rel (by simp [Rep])⟩
  · exact d.elim
theorem s_max1 (rel : Rel L ψ φ G H h) (rx : Rep L φ G a x) (d : DR L ψ W σV φ G (sem1 .max1 a h) Q) : rMax K [x] H Q := by
  simp only [sem1] at d
  split at d
  · rename_i zs e
    obtain ⟨hc, d⟩ := DenR.ite d
    rw [Option.bind_eq_some_iff] at e
    obtain ⟨xs, e1, e2⟩ := e
    obtain ⟨p, vs, rfl, r, rs⟩ := seqL_rep rel rx e1
    refine ⟨p, zs, rfl, by rw [← reps_ints rs e2]; exact .inl r, hc, fun k hk hm => ?_⟩
    have q := maxI_mem hc
    have e3 : k = maxI zs := by
      have h1 := hm _ q.1
      have h2 := q.2 _ hk
      omega
    rw [e3]
    exact d.val rel (by simp [Rep])
  · exact d.elim
theorem s_min1 (rel : Rel L ψ φ G H h) (rx : Rep L φ G a x) (d : DR L ψ W σV φ G (sem1 .min1 a h) Q) : rMin K [x] H Q := by
  simp only [sem1] at d
  split at d
  · rename_i zs e
    obtain ⟨hc, d⟩ := DenR.ite d
    rw [Option.bind_eq_some_iff] at e
    obtain ⟨xs, e1, e2⟩ := e
    obtain ⟨p, vs, rfl, r, rs⟩ := seqL_rep rel rx e1
    refine ⟨p, zs, rfl, by rw [← reps_ints rs e2]; exact .inl r, hc, fun k hk hm => ?_⟩
    have q := minI_mem hc
    have e3 : k = minI zs := by
      have h1 := hm _ q.1
      have h2 := q.2 _ hk
      omega
    rw [e3]
    exact d.val rel (by simp [Rep])
  · exact d.elim
theorem tyOf_rep {u : Ty} (rel : Rel L ψ φ G H h) (rx : Rep L φ G a x) (e : tyOf h a = some u) : TyX K H x (.type (tyN u)) := by
  have dk : ∀ {p : Addr} {kvs : List (Key × V)}, Rd H p (.dK kvs) → TyX K H (.ref p) (.type "dict") := fun r => by
    rcases r with r | ⟨o, r⟩
    · exact .base (.dK r)
    · exact .fDict r
  have ls : ∀ {p : Addr} {xs : List V}, Rd H p (.lst xs) → TyX K H (.ref p) (.type "list") := fun r => by
    rcases r with r | ⟨o, r⟩
    · exact .base (.lst r)
    · exact .base (.frz r)
  have tp : ∀ {p : Addr} {xs : List V}, Rd H p (.tup xs) → TyX K H (.ref p) (.type "tuple") := fun r => by
    rcases r with r | ⟨o, r⟩
    · exact .base (.tup r)
    · exact .fTuple r
  cases a with
  | bl k => cases e; simp only [Rep] at rx; subst rx; exact .base (.bl k)
  | int k => cases e; simp only [Rep] at rx; subst rx; exact .base (.int k)
  | str k => cases e; simp only [Rep] at rx; subst rx; exact .base (.str _)
  | tup k => cases e; simp only [Rep] at rx; obtain ⟨p, vs, rfl, r, _⟩ := rx; exact tp (rel.rd r)
  | lst k => cases e; simp only [Rep] at rx; obtain ⟨p, vs, rfl, r, _⟩ := rx; exact ls (rel.rd r)
  | dic k l => cases e; simp only [Rep] at rx; obtain ⟨p, vs, rfl, _, _, r, _⟩ := rx; exact dk (rel.rd r)
  | box i =>
    simp only [tyOf] at e
    split at e
    · rename_i q
      cases e
      obtain ⟨p, vs, rfl, _, r, _⟩ := box_lst rel rx q
      exact ls (.inl r)
    · rename_i ks ds q
      cases e
      obtain ⟨p, vs, rfl, _, _, r, _⟩ := dicV_rep (ks := ks) (ds := ds) rel rx (by simp [dicV, q])
      exact dk r
    · cases e
  | _ => cases e
theorem s_isTy {t : Ty} (kit : KitOk K) (rel : Rel L ψ φ G H h) (rx : Rep L φ G a x) (d : DR L ψ W σV φ G (sem1 (.isTy t) a h) Q) : rIsi K [x, .ty (tyN t)] H Q := by
  simp only [sem1] at d
  split at d
  · rename_i k e
    have q : Q (.bl k) H := d.val rel (by simp [Rep])
    unfold isTyV at e
    split at e
    · cases e
      simp only [Rep] at rx
      subst rx
      exact ⟨_, _, _, _, _, rfl, .ty _, .base .non, kit.non t, q⟩
    · rw [Option.map_eq_some_iff] at e
      obtain ⟨u, e1, rfl⟩ := e
      exact ⟨_, _, _, _, _, rfl, .ty _, tyOf_rep rel rx e1, kit.ty u t, q⟩
  · exact d.elim
theorem s_min2 (rel : Rel L ψ φ G H h) (rx : Rep L φ G a x) (ry : Rep L φ G b y) (d : DR L ψ W σV φ G (sem2 m .min2 a b h) Q) : ∃ i j, [x, y] = [.int i, .int j] ∧ Q (.int (if j < i then j else i)) H := by
  cases a with
  | int i =>
    cases b with
    | int j =>
      simp only [Rep] at rx ry
      subst rx ry
      refine ⟨i, j, rfl, ?_⟩
      have e : (if j < i then j else i) = min i j := by omega
      rw [e]
      exact d.val rel (by simp [Rep])
    | _ => exact d.elim
  | _ => exact d.elim
theorem s_max2 (rel : Rel L ψ φ G H h) (rx : Rep L φ G a x) (ry : Rep L φ G b y) (d : DR L ψ W σV φ G (sem2 m .max2 a b h) Q) : ∃ i j, [x, y] = [.int i, .int j] ∧ Q (.int (if j > i then j else i)) H := by
  cases a with
  | int i =>
    cases b with
    | int j =>
      simp only [Rep] at rx ry
      subst rx ry
      refine ⟨i, j, rfl, ?_⟩
      have e : (if j > i then j else i) = max i j := by omega
      rw [e]
      exact d.val rel (by simp [Rep])
    | _ => exact d.elim
  | _ => exact d.elim
/-! ### list.count of flat items -/
def rCntV (K : PySem.W.Frag) : V → List V → Hp → VK → Prop := fun x xs H Q => ∃ (p : Addr) (ys : List V) (y : V), x = .ref p ∧ xs = [y] ∧ SqL K H p ys ∧ flatV y = true ∧ ys.all flatV = true ∧ Q (.int (ys.countP fun z => eqV z y : Nat)) H
theorem count_eqU {y : V} : ∀ {xs : List V} {us : List Value}, Vals xs us → xs.all flatV = true → us.countP (eqU y) = xs.countP fun z => eqV z y
  | _, _, .nil, _ => rfl
  | z :: xs, u :: us, .cons r t, f => by
    rw [List.all_cons, Bool.and_eq_true] at f
    rw [List.countP_cons, List.countP_cons, eqU_of r f.1, count_eqU t f.2]
theorem mt_countV {X : Cx} : MtR X "list.count" (rCntV X.K) := by
  intro pins s σ H x xs v us Q I rx rxs h
  obtain ⟨p, ys, y, rfl, rfl, hs, fy, fs, q⟩ := h
  cases rx
  obtain ⟨u, rfl, ru⟩ := rxs.one
  obtain ⟨its, rv, ⟨⟨cls, dd, data, sl⟩, n, ho, hc, hdn, hd⟩, hlen⟩ := I.list hs
  simp only at hc hd
  subst hc hd
  refine call_meets PySem.F.slot_list_count ⟨_, ho, rfl⟩ PySem.F.entry_list_count (PySem.F.args_list_count_2 _ _)
    (SeqAt.list_countAt p its.toArray n dd sl u (eqU y)) ⟨ho, fun z hz => mem_eqAt ru fy rv fs z (by simpa using hz), ?_⟩
  refine ⟨.int (ys.countP fun z => eqV z y : Nat), H, I.tok _, ⟨s.toks, ?_⟩, q⟩
  show Value.int ((its.toArray.toList.countP (eqU y) : Nat) : Int) s.toks = Value.int ((ys.countP fun z => eqV z y : Nat) : Int) s.toks
  rw [show its.toArray.toList = its from rfl, count_eqU rv fs]
theorem countV_rep {d : D} {v : V} {xs : List D} {vs : List V} (f : flat d = true) (g : xs.all flat = true) (r : Rep L φ G d v) (s : Reps L φ G xs vs) : (vs.countP fun z => eqV z v) = xs.countP fun z => eqv z d := by
  induction xs generalizing vs with
  | nil => simp [Reps] at s; subst s; rfl
  | cons e t ih =>
    simp only [Reps] at s
    obtain ⟨u, us, rfl, r1, r2⟩ := s
    simp only [List.all_cons, Bool.and_eq_true] at g
    rw [List.countP_cons, List.countP_cons, ih g.2 r2, eqv_rep g.1 f r1 r]
theorem s_count (rel : Rel L ψ φ G H h) (rx : Rep L φ G a x) (ry : Rep L φ G b y) (d : DR L ψ W σV φ G (sem2 m .count a b h) Q) : rCntV K x [y] H Q := by
  simp only [sem2] at d
  split at d
  · rename_i xs e
    obtain ⟨hc, d⟩ := DenR.ite d
    rw [Bool.and_eq_true] at hc
    obtain ⟨p, vs, rfl, r, rs⟩ := seqL_rep rel rx e
    refine ⟨p, vs, y, rfl, rfl, .inl r, flat_rep hc.1 ry, flats_rep hc.2 rs, ?_⟩
    rw [countV_rep hc.1 hc.2 ry rs]
    exact d.val rel (by simp [Rep])
  · exact d.elim
/-! ### truth -/
theorem truth_rep {k : Bool} (rel : Rel L ψ φ G H h) (rx : Rep L φ G a x) (e : truth h a = some k) : TruV K x H k := by
  unfold truth at e
  split at e
  · rename_i xs q
    cases e
    obtain ⟨p, vs, rfl, r, rs⟩ := seqL_rep rel rx q
    exact .inl ⟨vs, .inl r, by cases xs <;> cases vs <;> simp [Reps] at rs ⊢⟩
  · split at e
    · cases e; simp only [Rep] at rx; subst rx; rfl
    · cases e; simp only [Rep] at rx; subst rx; rfl
    · cases e; simp only [Rep] at rx; subst rx; rfl
    · rename_i z _
      split at e
      · rename_i hz
        cases e
        simp only [Rep] at rx
        subst rx
        refine ⟨by rw [toS_length, ← lineN_eq]; exact hz, ?_⟩
        rw [toS_length]
        cases z <;> simp [bne]
        omega
      · cases e
    · rename_i xs _
      cases e
      simp only [Rep] at rx
      obtain ⟨p, vs, rfl, r, rs⟩ := rx
      exact .inr (.inl ⟨vs, .inl (rel.rd r), by cases xs <;> cases vs <;> simp [Reps] at rs ⊢⟩)
    · cases e
end
end FV

set_option maxRecDepth 100000
/-! The judgement, and how it is put together. -/
namespace FV
open PySem PySem.Spec L2 L2H
variable {L : Lw}

/-- the exception that is handled, pinned -/
abbrev Px := Option (Addr × Obj)
def SRep (L : Lw) (px : Px) (φ : List Addr) (G : Hp) : Sl → V → Prop
  | .v d, v => Rep L φ G d v
  | .x c ns vs, v => ∃ p, px = some p ∧ v = .ref p.1 ∧ p.2.cls = .ref (L.ecl c) ∧ XRep L φ G ns vs p.2.dict
theorem SRep.mono {px : Px} {φ φ' : List Addr} {G G' : Hp} (p : φ <+: φ') (l : RLe G G') : ∀ {s : Sl} {v : V}, SRep L px φ G s v → SRep L px φ' G' s v
  | .v d, v, h => Rep.mono p l h
  | .x c ns vs, v, ⟨q, e1, e2, e3, e4⟩ => ⟨q, e1, e2, e3, e4.mono p l⟩
def ERep (L : Lw) (px : Px) (φ : List Addr) (G : Hp) (σ : Env) (σV : L2.St) : Prop := σ.length = σV.length ∧ ∀ (i : Nat) (s : Sl), σ[i]? = some (some s) → ∃ v, σV[i]? = some (some v) ∧ SRep L px φ G s v
theorem ERep.mono {px : Px} {φ φ' : List Addr} {G G' : Hp} {σ : Env} {σV : L2.St} (h : ERep L px φ G σ σV) (p : φ <+: φ') (l : RLe G G') : ERep L px φ' G' σ σV :=
  ⟨h.1, fun i s e => by
    obtain ⟨v, e1, e2⟩ := h.2 i s e
    exact ⟨v, e1, e2.mono p l⟩⟩
theorem ERep.set {px : Px} {φ : List Addr} {G : Hp} {σ : Env} {σV : L2.St} (h : ERep L px φ G σ σV) {i : Nat} {s : Sl} {v : V} (r : SRep L px φ G s v) : ERep L px φ G (σ.set i (some s)) (σV.set i (some v)) := by
  refine ⟨by simp [h.1], fun j t e => ?_⟩
  by_cases hj : i = j
  · subst hj
    by_cases hl : i < σ.length
    · rw [List.getElem?_set_self hl] at e
      cases e
      exact ⟨v, by rw [List.getElem?_set_self (by rw [← h.1]; exact hl)], r⟩
    · rw [List.getElem?_eq_none (by simpa using hl)] at e; cases e
  · rw [List.getElem?_set_ne hj] at e ⊢
    exact h.2 j t e
theorem ERep.unset {px : Px} {φ : List Addr} {G : Hp} {σ : Env} {σV : L2.St} (h : ERep L px φ G σ σV) {i : Nat} : ERep L px φ G (σ.set i none) (σV.set i none) := by
  refine ⟨by simp [h.1], fun j t e => ?_⟩
  by_cases hj : i = j
  · subst hj
    by_cases hl : i < σ.length
    · rw [List.getElem?_set_self hl] at e; cases e
    · rw [List.getElem?_eq_none (by simpa using hl)] at e; cases e
  · rw [List.getElem?_set_ne hj] at e ⊢
    exact h.2 j t e

/-- the reading of a piece of the language -/
def tR {α β : Type} (L : Lw) (px : Px) (ρ : List Addr → Hp → α → β → Prop) (W : WX) (f : Env → Hb → FV.R α) : L2.St → Hp → (β → Hp → Prop) → Prop := fun σV H Q =>
  ∃ ψ φ G σ h, Rel L ψ φ G H h ∧ ERep L px φ G σ σV ∧ DenR L ψ ρ W σV φ G (f σ h) Q
abbrev tE (L : Lw) (px : Px) (W : WX) (f : Env → Hb → FV.R D) : TE := tR L px (Rep L) W f
def BRep : List Addr → Hp → Bool → Bool → Prop := fun _ _ a b => a = b
abbrev tT (L : Lw) (px : Px) (W : WX) (f : Env → Hb → FV.R Bool) : TT := tR L px BRep W f
abbrev tXs (L : Lw) (px : Px) (W : WX) (f : Env → Hb → FV.R (List D)) : TA := tR L px (Reps L) W f
def SReps (L : Lw) (px : Px) (φ : List Addr) (G : Hp) : List Sl → List V → Prop
  | [], vs => vs = []
  | d :: r, vs => ∃ v t, vs = v :: t ∧ SRep L px φ G d v ∧ SReps L px φ G r t
abbrev tAs (L : Lw) (px : Px) (W : WX) (f : Env → Hb → FV.R (List Sl)) : TA := tR L px (SReps L px) W f

theorem _root_.L2.PE.imp {X : Cx} {e : Expr} {t t' : TE} (h : PE X e t) (k : ∀ σ H Q, t' σ H Q → t σ H Q) : PE X e t' := ⟨fun pins s σ H Q I q => h.run pins s σ H Q I (k σ H Q q)⟩
theorem _root_.L2.PT.imp {X : Cx} {e : Expr} {t t' : TT} (h : PT X e t) (k : ∀ σ H Q, t' σ H Q → t σ H Q) : PT X e t' := ⟨fun pins s σ H Q I q => h.run pins s σ H Q I (k σ H Q q)⟩
theorem _root_.L2.PW.imp {X : Cx} {e : Expr} {t t' : TT} (h : PW X e t) (k : ∀ σ H Q, t' σ H Q → t σ H Q) : PW X e t' := ⟨fun w pins s σ H Q I q => h.run w pins s σ H Q I (k σ H Q q)⟩
theorem _root_.L2.PA.imp {X : Cx} {e : List Expr} {t t' : TA} (h : PA X e t) (k : ∀ σ H Q, t' σ H Q → t σ H Q) : PA X e t' := ⟨fun p pins s σ H Q I q => h.run p pins s σ H Q I (k σ H Q q)⟩

section
variable {px : Px} {W : WX} {α β γ δ ε ζ : Type} {ρ1 : List Addr → Hp → α → β → Prop} {ρ2 : List Addr → Hp → γ → δ → Prop} {ρ : List Addr → Hp → ε → ζ → Prop}
/-- one piece, then something of its value -/
theorem tR.one {f : Env → Hb → FV.R α} {g : α → Hb → FV.R ε} {σV : L2.St} {H : Hp} {Q : ζ → Hp → Prop} {Q1 : β → Hp → Prop} (x : tR L px ρ W (fun σ h => (f σ h).bind g) σV H Q)
    (k : ∀ ψ φ G H h a b, Rel L ψ φ G H h → ρ1 φ G a b → DenR L ψ ρ W σV φ G (g a h) Q → Q1 b H) : tR L px ρ1 W f σV H Q1 := by
  obtain ⟨ψ, φ, G, σ, h, rel, er, d⟩ := x
  exact ⟨ψ, φ, G, σ, h, rel, er, d.bind fun a h1 φ1 G1 H1 b p l rel1 r d1 => k ψ φ1 G1 H1 h1 a b rel1 r d1⟩
/-- two pieces -/
theorem tR.two {f : Env → Hb → FV.R α} {f2 : Env → Hb → FV.R γ} {g : α → γ → Hb → FV.R ε} {σV : L2.St} {H : Hp} {Q : ζ → Hp → Prop} {Q1 : β → δ → Hp → Prop}
    (m1 : ∀ {φ φ' G G' a b}, φ <+: φ' → RLe G G' → ρ1 φ G a b → ρ1 φ' G' a b)
    (x : tR L px ρ W (fun σ h => (f σ h).bind fun a h => (f2 σ h).bind (g a)) σV H Q)
    (k : ∀ ψ φ G H h a b c d, Rel L ψ φ G H h → ρ1 φ G a b → ρ2 φ G c d → DenR L ψ ρ W σV φ G (g a c h) Q → Q1 b d H) : tR L px ρ1 W f σV H fun b H1 => tR L px ρ2 W f2 σV H1 fun d H2 => Q1 b d H2 := by
  obtain ⟨ψ, φ, G, σ, h, rel, er, d⟩ := x
  exact ⟨ψ, φ, G, σ, h, rel, er, d.bind fun a h1 φ1 G1 H1 b p l rel1 r d1 => ⟨ψ, φ1, G1, σ, h1, rel1, er.mono p l,
    d1.bind fun c h2 φ2 G2 H2 d p2 l2 rel2 r2 d2 => k ψ φ2 G2 H2 h2 a b c d rel2 (m1 p2 l2 r) r2 d2⟩⟩
end
abbrev reps_mono {φ φ' : List Addr} {G G' : Hp} {a : D} {b : V} : φ <+: φ' → RLe G G' → Rep L φ G a b → Rep L φ' G' a b := fun p l r => r.mono p l

/-! ### what is static -/
structure Ck where
  N : List Str
  sc : Scope
  nm : Nat → Str
  gn : Nat → Option Str
  xn : Nat → Option Str
  cn : Nat → Option Str
  fd : Nat → Str
  fok : Nat → Bool
  xk : Nat → Option (Option Nat)
def isGl (sc : Scope) (x : Str) : Bool := sc.names.lookup x == some .globalImplicit
def isVis (sc : Scope) (x : Str) : Bool := match sc.names.lookup x with
  | some .local => true
  | some .cell => true
  | some .free => true
  | _ => false
def isCF (sc : Scope) (x : Str) : Bool := match sc.names.lookup x with
  | some .cell => true
  | some .free => true
  | _ => false
def isLoc (sc : Scope) (x : Str) : Bool := match sc.names.lookup x with
  | some .local => true
  | some .cell => true
  | _ => false
def noStar : Expr → Bool
  | .Starred _ _ => false
  | _ => true
def okBase : Expr → Bool
  | .Call (.Name _ _) [] [] _ => false
  | _ => true
def noSl : Expr → Bool
  | .Slice _ _ _ _ => false
  | _ => true
def noSet : Expr → Bool
  | .Set _ _ _ => false
  | _ => true
def noComp : Expr → Bool
  | .ListComp _ _ _ _ => false
  | .SetComp _ _ _ _ => false
  | .DictComp _ _ _ _ _ => false
  | _ => true
/-- its test is its value's truth -/
def plainT : Expr → Bool
  | .UnaryOp .Not _ _ => false
  | .BoolOp _ _ _ => false
  | .IfExp _ _ _ _ => false
  | .Compare _ _ _ _ => false
  | _ => true
theorem starEach_ns {e : Expr} {es : List Expr} {env : PySem.Env} (h : noStar e = true) : starEach (e :: es) env = (false, eval e env) :: starEach es env := by
  cases e <;> first | rfl | cases h
theorem base_ok {o : Expr} {n : Str} {env : PySem.Env} (h : okBase o = true) : attributeBase o n env (eval o env) = eval o env := by
  unfold attributeBase
  split
  · cases h
  · rfl
theorem plainIx_of {b : Expr} (h : noSl b = true) : PlainIx b := fun o i => by
  cases b <;> first | rfl | cases h
theorem folded_of {e : Expr} (h : noSet e = true) {env : PySem.Env} : ∀ x, foldedSetIterable e env x = pure x := fun x => by
  cases e <;> first | rfl | cases h
theorem swaps_of {e : Expr} (h : noComp e = true) {t : Option Expr} {l : Nat} {env : PySem.Env} : swapsWith e t l env = pure false := by
  cases e <;> first | rfl | cases h
theorem behind_of {op : CmpOp} {b : Expr} (h : noSet b = true) : behindInMarks op b = false := by
  cases b <;> first | rfl | cases h
theorem plainT_of {e : Expr} (h : plainT e = true) {env : PySem.Env} : ∀ whole, isTrue e env whole = (do let v ← whole; standAt e.pos; holding [v] (truthy v)) := fun whole => by
  cases e <;> first | rfl | skip
  all_goals first | cases h; done | skip
  rename_i op x pos
  cases op <;> first | rfl | cases h

/-- the context is as the checker saw it -/
structure Fit (L : Lw) (S : Ck) (n : Nat) (px : Px) (X : Cx) : Prop where
  prog : X.prog = L.P
  w : X.w = L.w
  K : X.K = L.K
  mg : X.mg = L.mg
  base : X.base = L.base
  N : X.N = S.N
  nd : S.N.Nodup
  vis : ∀ x, isVis S.sc x = true → Vis X.env.scope x
  loc : ∀ x, isLoc S.sc x = true → Loc X.env.scope x ∧ (X.fn x = true ∨ X.env.scope.names.lookup x = some .local)
  gl : ∀ x, isGl S.sc x = true → Gl X x
  cf : ∀ x, isCF S.sc x = true → X.env.scope.names.lookup x = some .cell ∨ X.env.scope.names.lookup x = some .free
  oloc : ∀ x, S.sc.names.lookup x = some .local → X.env.scope.names.lookup x = some .local
  ocel : ∀ x, S.sc.names.lookup x = some .cell → X.env.scope.names.lookup x = some .cell
  kind : X.env.scope.kind = .function
  pass : PassesOwn (model X.prog X.w) X.A X.env X.xe
  room : match px with
    | none => X.calm = true ∧ Room (n + 2) X.A
    | some p => Hot1 X.A p ∧ p ∈ X.pn ∧ RoomH (n + 2) X.A
section
variable {S : Ck} {n : Nat} {px : Px} {X : Cx}
theorem Fit.units (F : Fit L S n px X) : X.A.units + 150 < cLine := by
  have q := F.room
  cases px with
  | none => have := q.2.un; omega
  | some p => have := q.2.2.un; omega
theorem Fit.calm (F : Fit L S n none X) : X.calm = true := F.room.1
end
/-- an expression of the program is that piece of the language -/
def PEd (L : Lw) (S : Ck) (n : Nat) (ie : Ex) (e : Expr) : Prop := ∀ X px m W, Fit L S n px X → L2N.Takes X W → PE X e (tE L px W (evE (cfN L.T n px.isSome m) ie))
def PTd (L : Lw) (S : Ck) (n : Nat) (ie : Ex) (e : Expr) : Prop := ∀ X px m W, Fit L S n px X → L2N.Takes X W → PT X e (tT L px W (evT (cfN L.T n px.isSome m) ie))
def PXd (L : Lw) (S : Ck) (n : Nat) (ie : Xs) (e : List Expr) : Prop := ∀ X px m W, Fit L S n px X → L2N.Takes X W → PA X e (tXs L px W (evXs (cfN L.T n px.isSome m) ie))
def PAd (L : Lw) (S : Ck) (n : Nat) (ie : As) (e : List Expr) : Prop := ∀ X px m W, Fit L S n px X → L2N.Takes X W → PA X e (tAs L px W (evAs (cfN L.T n px.isSome m) ie))
end FV

set_option maxRecDepth 100000
/-! Operations in the program's text. -/
namespace FV
open PySem PySem.Spec L2 L2H
variable {L : Lw} {S : Ck} {n : Nat}

/-! ### two operands -/
def binO : O2 → Option Operator
  | .add => some .Add | .sub => some .Sub | .mul => some .Mult | .fdiv => some .FloorDiv | .mod => some .Mod | .pow => some .Pow | .shl => some .LShift | .shr => some .RShift
  | _ => none
def cmpO : O2 → Option CmpOp
  | .eq => some .Eq | .ne => some .NotEq | .lt => some .Lt | .le => some .LtE | .gt => some .Gt | .ge => some .GtE
  | .inn => some .In | .notin => some .NotIn | .isA => some .Is | .isnot => some .IsNot
  | _ => none
def metO : O2 → Option Str
  | .append => some "append" | .sadd => some "add" | .index => some "index" | .count => some "count" | .starts => some "startswith"
  | _ => none
def fnO2 : O2 → Option Str
  | .min2 => some "min" | .max2 => some "max"
  | _ => none
def callOk (sc : Scope) (x : Str) : Bool := isGl sc x && x != "__name__" && x != "__debug__"
/-- the two operands of such an expression -/
def view2 (S : Ck) (o : O2) : Expr → Option (Expr × Expr)
  | .BinOp x op y _ => if binO o = some op then some (x, y) else none
  | .Subscript x (.Slice none (some y) none _) _ => if o = .slU then some (x, y) else none
  | .Subscript x (.Slice (some y) none none _) _ => if o = .slL then some (x, y) else none
  | .Subscript x y _ => if o = .ix ∧ noSl y = true then some (x, y) else none
  | .Call (.Attribute x m ap) [y] [] cp => if metO o = some m ∧ okBase x = true ∧ noStar y = true ∧ (ap.endLine == cp.line) = true then some (x, y) else none
  | .Call (.Name f _) [x, y] [] _ => if fnO2 o = some f ∧ callOk S.sc f = true ∧ noStar x = true ∧ noStar y = true then some (x, y) else none
  | _ => none
/-- what the module's names are -/
structure MgOk (mg : Str → Option Value) : Prop where
  free : ∀ x ∈ (["len", "str", "int", "list", "all", "any", "max", "min", "sum", "isinstance", "range", "set", "bool", "tuple", "dict", "ValueError"] : List Str), mg x = none

theorem DenR.if_st {α β : Type} {ψ : List (Addr × HO)} {ρ : List Addr → Hp → α → β → Prop} {W : WX} {σV : L2.St} {φ : List Addr} {G : Hp} {c : Bool} {r : FV.R α} {Q : β → Hp → Prop} (x : DenR L ψ ρ W σV φ G (if c = true then .st else r) Q) :
    c = false ∧ DenR L ψ ρ W σV φ G r Q := by
  cases c with
  | true => exact x.elim
  | false => exact ⟨rfl, x⟩

section
variable {X : Cx} {px : Px} {W : WX} {m : Nat} {fa fb : Env → Hb → FV.R D} {x y e : Expr} {pos : Pos}
theorem tE_two {g : D → D → Hb → FV.R D} {σV : L2.St} {H : Hp} {Q : VK} {r : R2}
    (k : ∀ ψ φ G H h a b v u, Rel L ψ φ G H h → Rep L φ G a v → Rep L φ G b u → DR L ψ W σV φ G (g a b h) Q → r v u H Q)
    (d : tE L px W (fun σ h => (fa σ h).bind fun a h => (fb σ h).bind fun b h => g a b h) σV H Q) : tOp r (tE L px W fa) (tE L px W fb) σV H Q :=
  tR.two (ρ1 := Rep L) (ρ2 := Rep L) reps_mono d fun ψ φ G H h a b c d rel r1 r2 d1 => k ψ φ G H h a c b d rel r1 r2 d1
theorem pe_binop {o : O2} {op : Operator} (ho : binO o = some op) (ha : PE X x (tE L px W fa)) (hb : PE X y (tE L px W fb)) :
    PE X (.BinOp x op y pos) (tE L px W fun σ h => (fa σ h).bind fun a h => (fb σ h).bind fun b h => sem2 m o a b h) := by
  cases o <;> cases ho
  · exact (pe_op (op_addA) ha hb).imp fun σ H Q d => tE_two (fun ψ φ G H h a b v u rel r1 r2 d => s_add rel r1 r2 d) d
  · exact (pe_op op_sub ha hb).imp fun σ H Q d => tE_two (fun ψ φ G H h a b v u rel r1 r2 d => s_sub rel r1 r2 d) d
  · exact (pe_op op_mulW ha hb).imp fun σ H Q d => tE_two (fun ψ φ G H h a b v u rel r1 r2 d => s_mul rel r1 r2 d) d
  · exact (pe_op op_fdivW ha hb).imp fun σ H Q d => tE_two (fun ψ φ G H h a b v u rel r1 r2 d => s_fdiv rel r1 r2 d) d
  · exact (pe_op op_mod ha hb).imp fun σ H Q d => tE_two (fun ψ φ G H h a b v u rel r1 r2 d => s_mod rel r1 r2 d) d
  · exact (pe_op op_pow ha hb).imp fun σ H Q d => tE_two (fun ψ φ G H h a b v u rel r1 r2 d => s_pow rel r1 r2 d) d
  · exact (pe_op op_shl ha hb).imp fun σ H Q d => tE_two (fun ψ φ G H h a b v u rel r1 r2 d => s_shl rel r1 r2 d) d
  · exact (pe_op op_shr ha hb).imp fun σ H Q d => tE_two (fun ψ φ G H h a b v u rel r1 r2 d => s_shr rel r1 r2 d) d
/-- the rule of a comparison -/
def rC (L : Lw) : O2 → R2
  | .eq => rEqA L.K | .ne => rNeA L.K
  | .lt => rCmp (fun i j => decide (i < j)) (fun x y => decide (x < y))
  | .le => rCmp (fun i j => decide (i ≤ j)) (fun x y => !decide (y < x))
  | .gt => rCmp (fun i j => decide (j < i)) (fun x y => decide (y < x))
  | .ge => rCmp (fun i j => decide (j ≤ i)) (fun x y => !decide (x < y))
  | .inn => rInA L.P L.w L.K false | .notin => rInA L.P L.w L.K true
  | .isA => rIsA | .isnot => rNotA
  | _ => fun _ _ _ _ => False
theorem op_cmpC {o : O2} {op : CmpOp} (F : Fit L S n px X) (ho : cmpO o = some op) : OpR X (compareOp op) (rC L o) := by
  have hu := F.units
  have e1 := F.K
  have e2 := F.prog
  have e3 := F.w
  cases o <;> cases ho
  · show OpR X _ (rEqA L.K); rw [← e1]; exact op_eqA (by omega)
  · show OpR X _ (rNeA L.K); rw [← e1]; exact op_neA (by omega)
  · exact op_ltA
  · exact op_leA
  · exact op_gtA
  · exact op_geA
  · show OpR X _ (rInA L.P L.w L.K false); rw [← e1, ← e2, ← e3]; exact op_inA (by omega)
  · show OpR X _ (rInA L.P L.w L.K true); rw [← e1, ← e2, ← e3]; exact op_notInA (by omega)
  · exact op_isA
  · exact op_notA
theorem s_cmpC {o : O2} {op : CmpOp} (ho : cmpO o = some op) {ψ : List (Addr × HO)} {φ : List Addr} {G H : Hp} {h : Hb} {a b : D} {v u : V} {σV : L2.St} {Q : VK} (rel : Rel L ψ φ G H h) (r1 : Rep L φ G a v) (r2 : Rep L φ G b u)
    (d : DR L ψ W σV φ G (sem2 m o a b h) Q) : rC L o v u H Q := by
  cases o <;> cases ho
  · exact s_eq rel r1 r2 d
  · exact s_ne rel r1 r2 d
  · exact s_cmp rel r1 r2 d
  · exact s_cmp rel r1 r2 d
  · exact s_cmp rel r1 r2 d
  · exact s_cmp rel r1 r2 d
  · exact s_in rel r1 r2 d
  · exact s_notin rel r1 r2 d
  · exact s_is rel r1 r2 d
  · exact s_isnot rel r1 r2 d
/-- a comparison's result is a truth value -/
theorem cmp_bl {o : O2} {op : CmpOp} (ho : cmpO o = some op) {a b : D} {h : Hb} : (∃ k, sem2 m o a b h = .ok (.bl k) h) ∨ sem2 m o a b h = .st := by
  have ob : ∀ {z : Option Bool}, (∃ k, optB z h = .ok (.bl k) h) ∨ optB z h = .st := fun {z} => by
    cases z with
    | none => exact .inr rfl
    | some k => exact .inl ⟨k, rfl⟩
  have cb : ∀ {f : Int → Int → Bool} {g : Cs → Cs → Bool}, (∃ k, cmpI f g a b h = .ok (.bl k) h) ∨ cmpI f g a b h = .st := fun {f g} => by
    unfold cmpI
    split
    · exact .inl ⟨_, rfl⟩
    · exact .inl ⟨_, rfl⟩
    · exact .inr rfl
  cases o <;> cases ho
  · exact ob
  · exact ob
  · exact cb
  · exact cb
  · exact cb
  · exact cb
  · exact ob
  · exact ob
  · exact ob
  · exact ob
theorem pe_compare {o : O2} {op : CmpOp} (F : Fit L S n px X) (ho : cmpO o = some op) (hn : noSet y = true) (ha : PE X x (tE L px W fa)) (hb : PE X y (tE L px W fb)) :
    PE X (.Compare x [op] [y] pos) (tE L px W fun σ h => (fa σ h).bind fun a h => (fb σ h).bind fun b h => sem2 m o a b h) :=
  (pe_cmpR (op_cmpC F ho) ha hb (behind_of hn)).imp fun σ H Q d => tE_two (fun ψ φ G H h a b v u rel r1 r2 d => s_cmpC ho rel r1 r2 d) d
theorem blk_bl {ψ : List (Addr × HO)} {φ : List Addr} {G : Hp} {σV : L2.St} {Q : Bool → Hp → Prop} {r : FV.R D} (hr : (∃ k h, r = .ok (.bl k) h) ∨ r = .st)
    (d : DenR L ψ BRep W σV φ G (r.bind fun k h => match k with | .bl k => FV.R.ok k h | _ => .st) Q) : DR L ψ W σV φ G r fun v H => ∃ k, v = .bl k ∧ Q k H := by
  rcases hr with ⟨k, h, rfl⟩ | rfl
  · exact fun φ' G' H' b p l rel rb => ⟨k, by simpa [Rep] using rb, d φ' G' H' k p l rel rfl⟩
  · exact d
theorem pt_compare {o : O2} {op : CmpOp} (F : Fit L S n px X) (ho : cmpO o = some op) (hn : noSet y = true) (ha : PE X x (tE L px W fa)) (hb : PE X y (tE L px W fb)) :
    PT X (.Compare x [op] [y] pos) (tT L px W fun σ h => (fa σ h).bind fun a h => (fb σ h).bind fun b h => (sem2 m o a b h).bind fun k h => match k with | .bl k => FV.R.ok k h | _ => .st) := by
  refine (pt_cmpR (op_cmpC F ho) ha hb (behind_of hn)).imp fun σ H Q d => ?_
  refine tR.two (ρ1 := Rep L) (ρ2 := Rep L) reps_mono d fun ψ φ G H h a v b u rel r1 r2 d1 => s_cmpC (m := m) ho rel r1 r2 (blk_bl ?_ d1)
  rcases cmp_bl (m := m) ho (a := a) (b := b) (h := h) with ⟨k, e⟩ | e
  · exact .inl ⟨k, h, e⟩
  · exact .inr e
theorem pe_chain3 {o p : O2} {op op' : CmpOp} {z : Expr} {fc : Env → Hb → FV.R D} (F : Fit L S n px X) (ho : cmpO o = some op) (hp : cmpO p = some op') (hn : noSet y = true) (hn2 : noSet z = true)
    (ha : PE X x (tE L px W fa)) (hb : PE X y (tE L px W fb)) (hc : PE X z (tE L px W fc)) :
    PE X (.Compare x [op, op'] [y, z] pos) (tE L px W fun σ h => (fa σ h).bind fun a h => (fb σ h).bind fun b h => (sem2 m o a b h).bind fun k h =>
      match k with
      | .bl true => (fc σ h).bind fun c h => sem2 m p b c h
      | .bl false => .ok (.bl false) h
      | _ => .st) := by
  refine (pe_chain (op_cmpC F ho) (op_cmpC F hp) ha hb hc (by unfold lastMarks; exact behind_of hn2)).imp fun σ H Q d => ?_
  obtain ⟨ψ, φ, G, σE, h, rel, er, d⟩ := d
  refine ⟨ψ, φ, G, σE, h, rel, er, d.bind fun a h1 φ1 G1 H1 v p1 l1 rel1 r1 d1 => ⟨ψ, φ1, G1, σE, h1, rel1, er.mono p1 l1, d1.bind fun b h2 φ2 G2 H2 u p2 l2 rel2 r2 d2 => ?_⟩⟩
  refine s_cmpC (m := m) (W := W) (σV := σ) ho rel2 (r1.mono p2 l2) r2 ?_
  rcases cmp_bl (m := m) ho (a := a) (b := b) (h := h2) with ⟨k, e⟩ | e
  · rw [e] at d2 ⊢
    refine fun φ3 G3 H3 w p3 l3 rel3 r3 => ⟨k, by simpa [Rep] using r3, ?_⟩
    cases k with
    | true =>
      rw [if_pos rfl]
      have d3 : DR L ψ W σ φ2 G2 ((fc σE h2).bind fun c h => sem2 m p b c h) Q := d2
      exact ⟨ψ, φ3, G3, σE, h2, rel3, (er.mono p1 l1).mono (p2.trans p3) (l2.trans l3), (DenR.mono d3 p3 l3).bind fun c h4 φ4 G4 H4 t p4 l4 rel4 r4 d4 => s_cmpC (m := m) hp rel4 (r2.mono (p3.trans p4) (l3.trans l4)) r4 d4⟩
    | false =>
      rw [if_neg (by decide)]
      exact d2 φ3 G3 H3 (.bl false) p3 l3 rel3 (by simp [Rep])
  · rw [e] at d2
    exact d2.elim
theorem pt_chain3 {o p : O2} {op op' : CmpOp} {z : Expr} {fc : Env → Hb → FV.R D} (F : Fit L S n px X) (ho : cmpO o = some op) (hp : cmpO p = some op') (hn : noSet y = true) (hn2 : noSet z = true)
    (ha : PE X x (tE L px W fa)) (hb : PE X y (tE L px W fb)) (hc : PE X z (tE L px W fc)) :
    PT X (.Compare x [op, op'] [y, z] pos) (tT L px W fun σ h => (fa σ h).bind fun a h => (fb σ h).bind fun b h => (sem2 m o a b h).bind fun k h =>
      match k with
      | .bl true => (fc σ h).bind fun c h => (sem2 m p b c h).bind fun k h => match k with | .bl k => FV.R.ok k h | _ => .st
      | .bl false => .ok false h
      | _ => .st) := by
  refine (pt_chain (op_cmpC F ho) (op_cmpC F hp) ha hb hc (by unfold lastMarks; exact behind_of hn2)).imp fun σ H Q d => ?_
  obtain ⟨ψ, φ, G, σE, h, rel, er, d⟩ := d
  refine ⟨ψ, φ, G, σE, h, rel, er, d.bind fun a h1 φ1 G1 H1 v p1 l1 rel1 r1 d1 => ⟨ψ, φ1, G1, σE, h1, rel1, er.mono p1 l1, d1.bind fun b h2 φ2 G2 H2 u p2 l2 rel2 r2 d2 => ?_⟩⟩
  refine s_cmpC (m := m) (W := W) (σV := σ) ho rel2 (r1.mono p2 l2) r2 ?_
  rcases cmp_bl (m := m) ho (a := a) (b := b) (h := h2) with ⟨k, e⟩ | e
  · rw [e] at d2 ⊢
    refine fun φ3 G3 H3 w p3 l3 rel3 r3 => ⟨k, by simpa [Rep] using r3, ?_⟩
    cases k with
    | true =>
      rw [if_pos rfl]
      have d3 : DenR L ψ BRep W σ φ2 G2 ((fc σE h2).bind fun c h => (sem2 m p b c h).bind fun k h => match k with | .bl k => FV.R.ok k h | _ => .st) Q := d2
      refine ⟨ψ, φ3, G3, σE, h2, rel3, (er.mono p1 l1).mono (p2.trans p3) (l2.trans l3), (DenR.mono d3 p3 l3).bind fun c h4 φ4 G4 H4 t p4 l4 rel4 r4 d4 => ?_⟩
      refine s_cmpC (m := m) hp rel4 (r2.mono (p3.trans p4) (l3.trans l4)) r4 (blk_bl ?_ d4)
      rcases cmp_bl (m := m) hp (a := b) (b := c) (h := h4) with ⟨k, e⟩ | e
      · exact .inl ⟨k, h4, e⟩
      · exact .inr e
    | false =>
      rw [if_neg (by decide)]
      exact ⟨false, rfl, d2 φ3 G3 H3 false p3 l3 rel3 rfl⟩
  · rw [e] at d2
    exact d2.elim
end
end FV

set_option maxRecDepth 100000
/-! Methods, built-in functions in the program's text. -/
namespace FV
open PySem PySem.Spec L2 L2H
variable {L : Lw} {S : Ck} {n : Nat}
section
variable {X : Cx} {px : Px} {W : WX} {m : Nat} {fa fb fc : Env → Hb → FV.R D} {x y z e : Expr} {pos p2 ap cp fp : Pos}
/-- a piece whose second part comes only where the first is of a kind -/
abbrev ev2 (m : Nat) (o : O2) (k : Bool) (fa fb : Env → Hb → FV.R D) : Env → Hb → FV.R D := fun σ h => (fa σ h).bind fun a h => if recv o a h then (fb σ h).bind fun b h => if k && calm2 o then .st else sem2 m o a b h else .st
theorem ev2_plain {o : O2} {k : Bool} (hr : ∀ a h, recv o a h = true) (hc : calm2 o = false) : ev2 m o k fa fb = fun σ h => (fa σ h).bind fun a h => (fb σ h).bind fun b h => sem2 m o a b h := by
  funext σ h
  simp only [ev2, hr, if_true, hc, Bool.and_false, Bool.false_eq_true, if_false]
theorem pe_binop' {o : O2} {op : Operator} {k : Bool} (ho : binO o = some op) (ha : PE X x (tE L px W fa)) (hb : PE X y (tE L px W fb)) : PE X (.BinOp x op y pos) (tE L px W (ev2 m o k fa fb)) := by
  have e : ev2 m o k fa fb = fun σ h => (fa σ h).bind fun a h => (fb σ h).bind fun b h => sem2 m o a b h := by
    apply ev2_plain <;> cases o <;> cases ho <;> first | (intro a h; rfl) | rfl
  rw [e]
  exact pe_binop ho ha hb
theorem pe_subs {k : Bool} (F : Fit L S n px X) (hs : noSl y = true) (ha : PE X x (tE L px W fa)) (hb : PE X y (tE L px W fb)) : PE X (.Subscript x y pos) (tE L px W (ev2 m .ix k fa fb)) := by
  rw [ev2_plain (fun _ _ => rfl) rfl]
  have hu := F.units
  exact (pe_ix (ix_all (by omega)) ha hb (plainIx_of hs)).imp fun σ H Q d => tE_two (fun ψ φ G H h a b v u rel r1 r2 d => s_ix rel r1 r2 d) d
theorem pe_slU {k : Bool} (ha : PE X x (tE L px W fa)) (hb : PE X y (tE L px W fb)) : PE X (.Subscript x (.Slice none (some y) none p2) pos) (tE L px W (ev2 m .slU k fa fb)) := by
  rw [ev2_plain (fun _ _ => rfl) rfl]
  refine (pe_slice sl_all ha po_none (po_some hb)).imp fun σ H Q d => ?_
  refine tR.two (ρ1 := Rep L) (ρ2 := Rep L) reps_mono d fun ψ φ G H h a v b u rel r1 r2 d1 => ?_
  simp only [sem2] at d1
  split at d1
  · rename_i j
    exact ⟨j, by simpa [Rep] using r2, s_slice rel r1 d1⟩
  · exact d1.elim
theorem pe_slL {k : Bool} (ha : PE X x (tE L px W fa)) (hb : PE X y (tE L px W fb)) : PE X (.Subscript x (.Slice (some y) none none p2) pos) (tE L px W (ev2 m .slL k fa fb)) := by
  rw [ev2_plain (fun _ _ => rfl) rfl]
  refine (pe_slice sl_all ha (po_some hb) po_none).imp fun σ H Q d => ?_
  refine tR.two (ρ1 := Rep L) (ρ2 := Rep L) reps_mono d fun ψ φ G H h a v b u rel r1 r2 d1 => ?_
  simp only [sem2] at d1
  split at d1
  · rename_i j
    exact ⟨j, by simpa [Rep] using r2, s_slice rel r1 d1⟩
  · exact d1.elim
theorem pe_slLU (ha : PE X x (tE L px W fa)) (hb : PE X y (tE L px W fb)) (hc : PE X z (tE L px W fc)) :
    PE X (.Subscript x (.Slice (some y) (some z) none p2) pos) (tE L px W fun σ h => (fa σ h).bind fun a h => (fb σ h).bind fun b h => if isI b then (fc σ h).bind fun c h => sem3 .slLU a b c h else .st) := by
  refine (pe_slice sl_all ha (po_some hb) (po_some hc)).imp fun σ H Q d => ?_
  obtain ⟨ψ, φ, G, σE, h, rel, er, d⟩ := d
  refine ⟨ψ, φ, G, σE, h, rel, er, d.bind fun a h1 φ1 G1 H1 v p1 l1 rel1 r1 d1 => ⟨ψ, φ1, G1, σE, h1, rel1, er.mono p1 l1, d1.bind fun b h2 φ2 G2 H2 u p2 l2 rel2 r2 d2 => ?_⟩⟩
  have key : ∀ i, b = .int i → ∃ i, u = .int i ∧ tPart (tE L px W fc) σ H2 fun t H3 => rSlA X.K v (some i) t H3 Q := fun i e => by
    subst e
    refine ⟨i, by simpa [Rep] using r2, ψ, φ2, G2, σE, h2, rel2, (er.mono p1 l1).mono p2 l2, d2.bind fun c h3 φ3 G3 H3 t p3 l3 rel3 r3 d3 => ?_⟩
    simp only [sem3] at d3
    split at d3
    · rename_i i' j e1 e2
      cases e2
      exact ⟨j, by simpa [Rep] using r3, s_slice rel3 ((r1.mono p2 l2).mono p3 l3) d3⟩
    · exact d3.elim
  cases b with
  | int i => exact key i rfl
  | _ => exact d2.elim

/-- a rule that is served only where no exception is handled -/
def calmR (px : Px) (r : List V → Hp → VK → Prop) : List V → Hp → VK → Prop := match px with
  | none => r
  | some _ => fun _ _ _ => False
theorem callR_calm {f : Value} {r : List V → Hp → VK → Prop} (F : Fit L S n px X) (h : X.calm = true → CallR X f r) : CallR X f (calmR px r) := by
  cases px with
  | none => exact h F.calm
  | some p => exact fun _ _ _ _ _ _ _ _ _ z => z.elim

/-! ### methods -/
theorem few1 {es : List Expr} {env : PySem.Env} (h : noStar y = true) : ((backTo cp (starEach [y] env)).all (fun x => !x.1) && (backToKw cp (keywordEach [] env)).all (fun x => x.1.isSome)
      && decide (([y] : List Expr).length + ([] : List Keyword).length + (if ([] : List Keyword).isEmpty then 0 else 1) < 30)) = true := by
  rw [starEach_ns h]; rfl
theorem meth_red {o : O2} {k : Bool} {σ : L2.St} {H : Hp} {Q : VK} {T : String} {r : V → List V → Hp → VK → Prop} (hc : calm2 o = false)
    (hr : ∀ ψ φ G H h a v, Rel L ψ φ G H h → Rep L φ G a v → recv o a h = true → tyV X.K T v H)
    (hs : ∀ ψ φ G H h a b v u, Rel L ψ φ G H h → Rep L φ G a v → Rep L φ G b u → DR L ψ W σ φ G (sem2 m o a b h) Q → r v [u] H Q)
    (d : tE L px W (ev2 m o k fa fb) σ H Q) : tBM X.K T r (tE L px W fa) (tCons (tE L px W fb) tNil) σ H Q := by
  obtain ⟨ψ, φ, G, σE, h, rel, er, d⟩ := d
  refine ⟨ψ, φ, G, σE, h, rel, er, d.bind fun a h1 φ1 G1 H1 v p1 l1 rel1 r1 d1 => ?_⟩
  by_cases hv : recv o a h1 = true
  · rw [if_pos hv] at d1
    refine ⟨hr _ _ _ _ _ _ _ rel1 r1 hv, ψ, φ1, G1, σE, h1, rel1, er.mono p1 l1, d1.bind fun b h2 φ2 G2 H2 u p2 l2 rel2 r2 d2 => ?_⟩
    rw [hc, Bool.and_false] at d2
    exact hs _ _ _ _ _ _ _ _ _ rel2 (r1.mono p2 l2) r2 d2
  · rw [if_neg hv] at d1
    exact d1.elim
theorem recv_list {ψ : List (Addr × HO)} {φ : List Addr} {G H : Hp} {h : Hb} {a : D} {v : V} (rel : Rel L ψ φ G H h) (r : Rep L φ G a v) (e : (seqL h a).isSome = true) : tyV X.K "list" v H := by
  obtain ⟨xs, ex⟩ := Option.isSome_iff_exists.mp e
  obtain ⟨p, vs, rfl, q, _⟩ := seqL_rep rel r ex
  exact .inl ⟨rfl, vs, .inl q⟩
theorem recv_str {φ : List Addr} {G H : Hp} {h : Hb} {a : D} {v : V} {o : O2} (ho : o = .index ∨ o = .starts) (r : Rep L φ G a v) (e : recv o a h = true) : tyV X.K "str" v H := by
  cases a with
  | str x => simp only [Rep] at r; subst r; rfl
  | _ => rcases ho with rfl | rfl <;> cases e
theorem pe_meth2 {o : O2} {k : Bool} {nm : Str} (F : Fit L S n px X) (ho : metO o = some nm) (hb0 : okBase x = true) (hy : noStar y = true) (hl : (ap.endLine == cp.line) = true)
    (ha : PE X x (tE L px W fa)) (hb : PE X y (tE L px W fb)) : PE X (.Call (.Attribute x nm ap) [y] [] cp) (tE L px W (ev2 m o k fa fb)) := by
  have pa : PA X [y] (tCons (tE L px W fb) tNil) := pa_cons hb pa_nil (starEach_ns hy)
  have fw := few1 (cp := cp) (y := y) (es := []) (env := X.env) hy
  cases o <;> cases ho
  · refine (pe_bm PySem.F.plainAttrs_list PySem.F.slot_list_append PySem.F.type_list_append mt_append ha pa (base_ok hb0) fw hl (starEach_ns hy) rfl).imp fun σ H Q d => ?_
    exact meth_red (o := .append) rfl (fun ψ φ G H h a v rel r e => recv_list rel r e) (fun ψ φ G H h a b v u rel r1 r2 d => s_append rel r1 r2 d) d
  · refine (pe_saddK ha pa (base_ok hb0) fw hl (starEach_ns hy) rfl).imp fun σ H Q d => ?_
    obtain ⟨ψ, φ, G, σE, h, rel, er, d⟩ := d
    refine ⟨ψ, φ, G, σE, h, rel, er, d.bind fun a h1 φ1 G1 H1 v p1 l1 rel1 r1 d1 => ?_⟩
    by_cases hv : recv .sadd a h1 = true
    · rw [if_pos hv] at d1
      refine ⟨?_, ψ, φ1, G1, σE, h1, rel1, er.mono p1 l1, d1.bind fun b h2 φ2 G2 H2 u p2 l2 rel2 r2 d2 => ?_⟩
      · cases a with
        | box i =>
          simp only [recv] at hv
          split at hv
          · rename_i ks q
            obtain ⟨p, rfl, _, _, hh⟩ := box_set rel1 r1 q
            rw [F.prog, F.w]
            exact ⟨p, _, _, rfl, hh⟩
          · cases hv
        | _ => cases hv
      · rw [show (k && calm2 .sadd) = false from Bool.and_false k] at d2
        rw [F.prog, F.w]
        exact s_sadd (m := m) rel2 (r1.mono p2 l2) r2 d2
    · rw [if_neg hv] at d1
      exact d1.elim
  · refine (pe_bm PySem.F.plainAttrs_str PySem.F.slot_str_index PySem.F.type_str_index mt_sindex ha pa (base_ok hb0) fw hl (starEach_ns hy) rfl).imp fun σ H Q d => ?_
    exact meth_red (o := .index) rfl (fun ψ φ G H h a v rel r e => recv_str (.inl rfl) r e) (fun ψ φ G H h a b v u rel r1 r2 d => s_index rel r1 r2 d) d
  · refine (pe_bm PySem.F.plainAttrs_list PySem.F.slot_list_count PySem.F.type_list_count mt_countV ha pa (base_ok hb0) fw hl (starEach_ns hy) rfl).imp fun σ H Q d => ?_
    exact meth_red (o := .count) rfl (fun ψ φ G H h a v rel r e => recv_list rel r e) (fun ψ φ G H h a b v u rel r1 r2 d => s_count rel r1 r2 d) d
  · refine (pe_bm PySem.F.plainAttrs_str PySem.F.slot_str_startswith PySem.F.type_str_startswith mt_startswith ha pa (base_ok hb0) fw hl (starEach_ns hy) rfl).imp fun σ H Q d => ?_
    exact meth_red (o := .starts) rfl (fun ψ φ G H h a v rel r e => recv_str (.inr rfl) r e) (fun ψ φ G H h a b v u rel r1 r2 d => s_starts rel r1 r2 d) d
theorem pe_fn2 {o : O2} {nm : Str} (F : Fit L S n px X) (M : MgOk L.mg) (ho : fnO2 o = some nm) (hg : callOk S.sc nm = true) (hx : noStar x = true) (hy : noStar y = true)
    (ha : PE X x (tE L px W fa)) (hb : PE X y (tE L px W fb)) : PE X (.Call (.Name nm fp) [x, y] [] cp) (tE L px W (ev2 m o px.isSome fa fb)) := by
  have hgl : Gl X nm := F.gl _ (by unfold callOk at hg; simp only [Bool.and_eq_true] at hg; exact hg.1.1)
  have pa : PA X [x, y] (tCons (tE L px W fa) (tCons (tE L px W fb) tNil)) := pa_cons ha (pa_cons hb pa_nil (starEach_ns hy)) (starEach_ns hx)
  have pl : (backTo cp (starEach [y] X.env)).any (·.1) = false := by rw [starEach_ns hy]; rfl
  have hm : X.mg nm = none := by rw [F.mg]; cases o <;> cases ho <;> exact M.free _ (by simp)
  have red : ∀ {σ H Q} {r : List V → Hp → VK → Prop}, calm2 o = true → (∀ {a h}, recv o a h = true) → tE L px W (ev2 m o px.isSome fa fb) σ H Q → 
      (∀ ψ φ G H h a b v u, Rel L ψ φ G H h → Rep L φ G a v → Rep L φ G b u → DR L ψ W σ φ G (sem2 m o a b h) Q → r [v, u] H Q) →
      tCB (calmR px r) (tCons (tE L px W fa) (tCons (tE L px W fb) tNil)) σ H Q := fun {σ H Q r} hc hr d k => by
    obtain ⟨ψ, φ, G, σE, h, rel, er, d⟩ := d
    refine ⟨ψ, φ, G, σE, h, rel, er, d.bind fun a h1 φ1 G1 H1 v p1 l1 rel1 r1 d1 => ?_⟩
    rw [if_pos hr] at d1
    refine ⟨ψ, φ1, G1, σE, h1, rel1, er.mono p1 l1, d1.bind fun b h2 φ2 G2 H2 u p2 l2 rel2 r2 d2 => ?_⟩
    obtain ⟨e, d3⟩ := d2.if_st
    rw [hc, Bool.and_true] at e
    cases px with
    | some p => cases e
    | none => exact k _ _ _ _ _ _ _ _ _ rel2 (r1.mono p2 l2) r2 d3
  cases o <;> cases ho
  · refine (pe_callB (callR_calm F fun hc => call_min2 hc) hgl hm (by decide +kernel) pa (by decide) (by decide) (starEach_ns hx) pl).imp fun σ H Q d => red rfl rfl d fun ψ φ G H h a b v u rel r1 r2 d => s_min2 rel r1 r2 d
  · refine (pe_callB (callR_calm F fun hc => call_max2 hc) hgl hm (by decide +kernel) pa (by decide) (by decide) (starEach_ns hx) pl).imp fun σ H Q d => red rfl rfl d fun ψ φ G H h a b v u rel r1 r2 d => s_max2 rel r1 r2 d

/-! ### one operand -/
def fnO1 : O1 → Option (Str × Value)
  | .len => some ("len", .builtin "len") | .strI => some ("str", .type "str") | .intI => some ("int", .type "int") | .list _ => some ("list", .type "list")
  | .all => some ("all", .builtin "all") | .any => some ("any", .builtin "any") | .max1 => some ("max", .builtin "max") | .min1 => some ("min", .builtin "min") | .sum1 => some ("sum", .builtin "sum")
  | _ => none
def rF1 (L : Lw) : O1 → List V → Hp → VK → Prop
  | .len => fun xs H Q => ∃ z n, xs = [z] ∧ LenA L.P L.w L.K z H n ∧ Q (.int n) H
  | .strI => fun xs H Q => ∃ i, xs = [.int i] ∧ i.natAbs.log2 < 1920 ∧ Q (.str (toString i)) H
  | .intI => fun xs H Q => (∃ i, xs = [.int i] ∧ Q (.int i) H) ∨ ∃ k, xs = [.bl k] ∧ Q (.int (if k then 1 else 0)) H
  | .list _ => rListA L.K
  | .all => rAll L.K | .any => rAny L.K | .max1 => rMax L.K | .min1 => rMin L.K | .sum1 => rSum L.K
  | _ => fun _ _ _ => False
theorem fn1_ok {o : O1} {nm : Str} {f : Value} (F : Fit L S n px X) (ho : fnO1 o = some (nm, f)) : CallR X f (if calm1 o = true then calmR px (rF1 L o) else rF1 L o) := by
  have e1 := F.K
  cases o <;> cases ho
  · show CallR X _ (rF1 L .len); unfold rF1; rw [← e1, ← F.prog, ← F.w]; exact call_lenA
  · exact call_str_int
  · exact call_int1
  · refine callR_calm F fun hc => ?_; unfold rF1; rw [← e1]; exact call_listA hc
  · refine callR_calm F fun hc => ?_; unfold rF1; rw [← e1]; exact cr_all hc
  · refine callR_calm F fun hc => ?_; unfold rF1; rw [← e1]; exact cr_any hc
  · refine callR_calm F fun hc => ?_; unfold rF1; rw [← e1]; exact cr_max hc
  · refine callR_calm F fun hc => ?_; unfold rF1; rw [← e1]; exact cr_min hc
  · refine callR_calm F fun hc => ?_; unfold rF1; rw [← e1]; exact cr_sum hc
theorem s_fn1 {o : O1} {nm : Str} {f : Value} (ho : fnO1 o = some (nm, f)) {ψ : List (Addr × HO)} {φ : List Addr} {G H : Hp} {h : Hb} {a : D} {v : V} {σV : L2.St} {Q : VK} (rel : Rel L ψ φ G H h) (r : Rep L φ G a v)
    (d : DR L ψ W σV φ G (sem1 o a h) Q) : rF1 L o [v] H Q := by
  cases o <;> cases ho
  · exact s_len rel r d
  · exact s_strI rel r d
  · exact s_intI rel r d
  · exact s_list rel r d
  · exact s_all rel r d
  · exact s_any rel r d
  · exact s_max1 rel r d
  · exact s_min1 rel r d
  · exact s_sum rel r d
abbrev ev1 (o : O1) (k : Bool) (fa : Env → Hb → FV.R D) : Env → Hb → FV.R D := fun σ h => (fa σ h).bind fun a h => if k && calm1 o then .st else sem1 o a h
theorem pe_fn1 {o : O1} {nm : Str} {f : Value} (F : Fit L S n px X) (M : MgOk L.mg) (ho : fnO1 o = some (nm, f)) (hg : isGl S.sc nm = true) (hx : noStar x = true) (ha : PE X x (tE L px W fa)) :
    PE X (.Call (.Name nm fp) [x] [] cp) (tE L px W (ev1 o px.isSome fa)) := by
  have hgl : Gl X nm := F.gl _ hg
  have pa : PA X [x] (tCons (tE L px W fa) tNil) := pa_cons ha pa_nil (starEach_ns hx)
  have hm : X.mg nm = none := by rw [F.mg]; cases o <;> cases ho <;> exact M.free _ (by simp)
  have hcal := fn1_ok F ho
  have red : ∀ {σ H Q}, tE L px W (ev1 o px.isSome fa) σ H Q → tCB (if calm1 o = true then calmR px (rF1 L o) else rF1 L o) (tCons (tE L px W fa) tNil) σ H Q := fun {σ H Q} d => by
    obtain ⟨ψ, φ, G, σE, h, rel, er, d⟩ := d
    refine ⟨ψ, φ, G, σE, h, rel, er, d.bind fun a h1 φ1 G1 H1 v p1 l1 rel1 r1 d1 => ?_⟩
    obtain ⟨e, d3⟩ := d1.if_st
    have q := s_fn1 ho rel1 r1 d3
    show (if calm1 o = true then calmR px (rF1 L o) else rF1 L o) [v] H1 Q
    cases hc : calm1 o with
    | false => rw [if_neg (by simp)]; exact q
    | true =>
      rw [if_pos rfl]
      rw [hc, Bool.and_true] at e
      cases px with
      | some p => cases e
      | none => exact q
  have nn : nm ≠ "__name__" := by cases o <;> cases ho <;> decide
  have nd : (nm == ("__debug__" : Str)) = false := by cases o <;> cases ho <;> decide
  have key : (∃ T, f = .type T ∧ bootBuiltins nm = some (.type T)) ∨ ∃ T, f = .builtin T ∧ bootBuiltins nm = some (.builtin T) := by
    cases o <;> cases ho
    · exact .inr ⟨_, rfl, by decide +kernel⟩
    · exact .inl ⟨_, rfl, by decide +kernel⟩
    · exact .inl ⟨_, rfl, by decide +kernel⟩
    · exact .inl ⟨_, rfl, by decide +kernel⟩
    · exact .inr ⟨_, rfl, by decide +kernel⟩
    · exact .inr ⟨_, rfl, by decide +kernel⟩
    · exact .inr ⟨_, rfl, by decide +kernel⟩
    · exact .inr ⟨_, rfl, by decide +kernel⟩
    · exact .inr ⟨_, rfl, by decide +kernel⟩
  rcases key with ⟨T, rfl, hv⟩ | ⟨T, rfl, hv⟩
  · exact (pe_callTy hcal hgl hm hv pa nn nd (starEach_ns hx) rfl).imp fun σ H Q d => red d
  · exact (pe_callB hcal hgl hm hv pa nn nd (starEach_ns hx) rfl).imp fun σ H Q d => red d
theorem pe_pop0 {k : Bool} (hb0 : okBase x = true) (hl : (ap.endLine == cp.line) = true) (ha : PE X x (tE L px W fa)) : PE X (.Call (.Attribute x "pop" ap) [] [] cp) (tE L px W (ev1 .pop k fa)) := by
  refine (pe_bm0 PySem.F.plainAttrs_list PySem.F.slot_list_pop PySem.F.type_list_pop mt_pop ha (base_ok hb0) hl).imp fun σ H Q d => ?_
  obtain ⟨ψ, φ, G, σE, h, rel, er, d⟩ := d
  refine ⟨ψ, φ, G, σE, h, rel, er, d.bind fun a h1 φ1 G1 H1 v p1 l1 rel1 r1 d1 => ?_⟩
  rw [show (k && calm1 .pop) = false from Bool.and_false k] at d1
  have q := s_pop rel1 r1 d1
  refine ⟨?_, q⟩
  obtain ⟨l, xs, y, e, _, hl, _⟩ := q
  subst e
  exact .inl ⟨rfl, xs, .inl (.inl hl)⟩
theorem pe_neg {k : Bool} (ha : PE X x (tE L px W fa)) : PE X (.UnaryOp .USub x pos) (tE L px W (ev1 .neg k fa)) := by
  refine (pe_un un_neg ha).imp fun σ H Q d => ?_
  obtain ⟨ψ, φ, G, σE, h, rel, er, d⟩ := d
  refine ⟨ψ, φ, G, σE, h, rel, er, d.bind fun a h1 φ1 G1 H1 v p1 l1 rel1 r1 d1 => ?_⟩
  rw [show (k && calm1 .neg) = false from Bool.and_false k] at d1
  simp only [Bool.false_eq_true, if_false, sem1] at d1
  split at d1
  · rename_i i
    exact ⟨i, by simpa [Rep] using r1, d1.val rel1 (by simp [Rep])⟩
  · exact d1.elim
theorem pe_isTy {t : Ty} {k : Bool} {tp : Pos} (F : Fit L S n px X) (M : MgOk L.mg) (kit : KitOk L.K) (hg : isGl S.sc "isinstance" = true) (ht : isGl S.sc (tyN t) = true) (hx : noStar x = true) (ha : PE X x (tE L px W fa)) :
    PE X (.Call (.Name "isinstance" fp) [x, .Name (tyN t) tp] [] cp) (tE L px W (ev1 (.isTy t) k fa)) := by
  have hgl : Gl X "isinstance" := F.gl _ hg
  have hm : X.mg "isinstance" = none := by rw [F.mg]; exact M.free _ (by simp)
  have hmt : X.mg (tyN t) = none := by rw [F.mg]; cases t <;> exact M.free _ (by simp [tyN])
  have hT : PE X (.Name (tyN t) tp) (tC (.ty (tyN t))) := pe_bltn (F.gl _ ht) hmt (u := .type (tyN t)) (by cases t <;> decide +kernel) rfl (by cases t <;> decide) (by cases t <;> decide)
  have pa : PA X [x, .Name (tyN t) tp] (tCons (tE L px W fa) (tCons (tC (.ty (tyN t))) tNil)) := pa_cons ha (pa_cons hT pa_nil) (starEach_ns hx)
  refine (pe_callB call_isi hgl hm (by decide +kernel) pa (by decide) (by decide) (starEach_ns hx) rfl).imp fun σ H Q d => ?_
  obtain ⟨ψ, φ, G, σE, h, rel, er, d⟩ := d
  refine ⟨ψ, φ, G, σE, h, rel, er, d.bind fun a h1 φ1 G1 H1 v p1 l1 rel1 r1 d1 => ?_⟩
  rw [show (k && calm1 (.isTy t)) = false from Bool.and_false k] at d1
  have q := s_isTy kit rel1 r1 d1
  show rIsi X.K [v, .ty (tyN t)] H1 Q
  rw [F.K]
  exact q
end
end FV

set_option maxRecDepth 100000
/-! Calls of the program's own defs. -/
namespace FV
open PySem PySem.Spec L2 L2H
variable {L : Lw} {S : Ck} {n : Nat}

/-- what a def at depth n promises: what the evaluator says -/
def spN (L : Lw) (n f : Nat) : Sp := fun vs H Q E => ∃ ψ φ G mc xs h, Rel L ψ φ G H h ∧ SReps L none φ G xs vs ∧ DenR L ψ (Rep L) (fun c d _ H => E c d H) [] φ G (callN L.T n false mc f xs h) Q
/-- .. while the exception p is handled -/
def spH (L : Lw) (n f : Nat) (p : Addr × Obj) : Sp := fun vs H Q E => ∃ ψ φ G mc xs h, Rel L ψ φ G H h ∧ SReps L (some p) φ G xs vs ∧ DenR L ψ (Rep L) (fun c d _ H => E c d H) [] φ G (callN L.T n true mc f xs h) Q
def spX (L : Lw) (n f : Nat) : Px → Sp
  | none => spN L n f
  | some p => spH L n f p
abbrev CXn (L : Lw) : CXT := L2N.CX L.P L.w
structure FnHt (P : Program) (w : World) (K : PySem.W.Frag) (mg : Str → Option Value) (base : Heap) (CX : CXT) (k : Nat) (f : Addr) (fd : FuncData) (ps : List Str) (sp : Addr × Obj → Sp) : Prop where
  len : ∀ p vs H Q E, sp p vs H Q E → vs.length = ps.length
  run : ∀ (A : Around) (outer : List PySem.Env) (s : Shared) (H : Hp) (args : Args) (us : List Value) (vs : List V) (Q : VK) (E : XK) (p : Addr × Obj), RoomH k A → Hot1 A p → PinOk outer H s p → Env0 P w K mg base A outer s H → BindsTo s fd args (ps.zip us) → Vals vs us → sp p vs H Q E →
    codeAny (model P w) A (.call (.ref f) args) (CR CX outer P w H s Q E) s
/-- a def of the program, at depth n -/
structure FnGood (L : Lw) (n f : Nat) (fd : FuncData) (ps : List Str) : Prop where
  calm : FnOk L.P L.w L.K L.mg L.base (CXn L) (n + 2) (L.fa f) fd ps (spN L n f)
  hot : FnHt L.P L.w L.K L.mg L.base (CXn L) (n + 2) (L.fa f) fd ps (spH L n f)
  binds : Binds L.K fd ps []
  keep : PySem.W.keepIn L.K (.ref (L.fa f)) = true
def CallsOk (L : Lw) (n : Nat) : Prop := ∀ f F, L.T.fn f = some F → ∃ fd ps, FnGood L n f fd ps
/-- the names of the defs -/
structure NmOk (L : Lw) (S : Ck) : Prop where
  fn : ∀ f F, L.T.fn f = some F → L.mg (S.nm f) = some (.ref (L.fa f)) ∧ S.nm f ≠ ("__debug__" : Str)
  xn : ∀ c x, S.xn c = some x → L.mg x = some (.ref (L.ecl c)) ∧ x ≠ ("__debug__" : Str)
  gn : ∀ g x, S.gn g = some x → x ≠ ("__debug__" : Str) ∧ ∀ d, L.T.glo g = some d → ∃ v u, L.mg x = some u ∧ RelV v u ∧ ∀ φ G, Rep L φ G d v

section
variable {X : Cx} {px : Px} {W : WX} {m : Nat} {e : Expr} {es : List Expr} {p pos : Pos} {nm : Str}
theorem run_good {f : Nat} {fd : FuncData} {ps : List Str} {pins : List (Addr × Obj)} {σ : L2.St} {H : Hp} {s : Shared} {Q : VK} {us : List Value} {vs : List V} (F : Fit L S n px X) (tk : L2N.Takes X W) (g : FnGood L n f fd ps) (I : Inv X pins σ H s) (r : Vals vs us)
    (h : spX L n f px vs H Q fun c d H' => W c d σ H') : wpAny (model X.prog X.w) X.A (call (.ref (L.fa f)) us) (EP X pins σ Q) X.xe s := by
  have fin : ∀ r s', CR (L2N.CX X.prog X.w) X.stack X.prog X.w H s Q (fun c d H' => W c d σ H') r s' → (match r with | .ok (.ret v) => EP X pins σ Q v s' | .ok _ => False | .error e => X.xe e s') := fun r s' hq => by
    cases r with
    | error e => exact tk e s' (L2N.XE.of_call I (fun _ _ _ h => h) hq)
    | ok fl =>
      cases fl with
      | ret u => exact I.after hq
      | next => exact False.elim hq
      | brk => exact False.elim hq
      | cont => exact False.elim hq
  have e0 := I.env0
  have kin : L.K.In s.heap := by rw [← F.K]; exact I.kIn
  cases px with
  | none =>
    have hl : us.length = ps.length := by rw [← r.length]; exact g.calm.len _ _ _ _ h
    have b := g.binds s us kin (by rw [List.append_nil]; exact hl)
    rw [List.append_nil] at b
    have hr := F.room.2
    have run := g.calm.run X.A X.stack s H ⟨us, []⟩ us vs Q _ hr (by rw [← F.prog, ← F.w, ← F.K, ← F.mg, ← F.base]; exact e0) b r h
    rw [F.prog, F.w] at fin ⊢
    exact wpAny_call (codeAny_mono run fun r s' hq => fin r s' hq)
  | some p =>
    have hl : us.length = ps.length := by rw [← r.length]; exact g.hot.len _ _ _ _ _ h
    have b := g.binds s us kin (by rw [List.append_nil]; exact hl)
    rw [List.append_nil] at b
    obtain ⟨hot, hp, hr⟩ := F.room
    have P1 := I.pin p (List.mem_append_left _ hp)
    have hpin : PinOk X.stack H s p := ⟨P1.1, P1.2.1, fun hm => (List.mem_cons.mp (I.stkSub p.1 hm)).elim P1.2.2.1 P1.2.2.2.1, P1.2.2.2.2⟩
    have run := g.hot.run X.A X.stack s H ⟨us, []⟩ us vs Q _ p hr hot hpin (by rw [← F.prog, ← F.w, ← F.K, ← F.mg, ← F.base]; exact e0) b r h
    rw [F.prog, F.w] at fin ⊢
    exact wpAny_call (codeAny_mono run fun r s' hq => fin r s' hq)
/-- from the evaluator's call to the promise -/
theorem call_sp {f : Nat} {ψ : List (Addr × HO)} {φ : List Addr} {G H : Hp} {h : Hb} {xs : List Sl} {vs : List V} {σ : L2.St} {Q : VK} (rel : Rel L ψ φ G H h) (r : SReps L px φ G xs vs)
    (d : DR L ψ W σ φ G (callN L.T n px.isSome m f xs h) Q) : spX L n f px vs H Q fun c d H' => W c d σ H' := by
  cases px with
  | none =>
    refine ⟨ψ, φ, G, m, xs, h, rel, r, ?_⟩
    cases e : callN L.T n false m f xs h with
    | ok a h' => rw [show callN L.T n (Option.isSome (none : Px)) m f xs h = _ from e] at d; exact d
    | ex c ns vs h' => rw [show callN L.T n (Option.isSome (none : Px)) m f xs h = _ from e] at d; exact d
    | st => rw [show callN L.T n (Option.isSome (none : Px)) m f xs h = _ from e] at d; exact d
  | some p =>
    refine ⟨ψ, φ, G, m, xs, h, rel, r, ?_⟩
    cases e : callN L.T n true m f xs h with
    | ok a h' => rw [show callN L.T n (Option.isSome (some p : Px)) m f xs h = _ from e] at d; exact d
    | ex c ns vs h' => rw [show callN L.T n (Option.isSome (some p : Px)) m f xs h = _ from e] at d; exact d
    | st => rw [show callN L.T n (Option.isSome (some p : Px)) m f xs h = _ from e] at d; exact d
theorem any_ns : ∀ {es : List Expr} {env : PySem.Env} {pos : Pos}, es.all noStar = true → (backTo pos (starEach es env)).any (·.1) = false
  | [], _, _, _ => rfl
  | e :: es, env, pos, h => by
    simp only [List.all_cons, Bool.and_eq_true] at h
    rw [starEach_ns h.1]
    show (false || (backTo pos (starEach es env)).any (·.1)) = false
    rw [any_ns h.2]; rfl
theorem pe_own {f : Nat} {F0 : Fn} {fas : Env → Hb → FV.R (List Sl)} (F : Fit L S n px X) (tk : L2N.Takes X W) (C : CallsOk L n) (N : NmOk L S) (hf : L.T.fn f = some F0) (hg : isGl S.sc (S.nm f) = true) (hes : (e :: es).all noStar = true)
    (ha : PA X (e :: es) (tAs L px W fas)) : PE X (.Call (.Name (S.nm f) p) (e :: es) [] pos) (tE L px W fun σ h => (fas σ h).bind fun xs h => callN L.T n px.isSome m f xs h) := by
  obtain ⟨fd, ps, g⟩ := C f F0 hf
  obtain ⟨hm, hd⟩ := N.fn f F0 hf
  have hgl : Gl X (S.nm f) := F.gl _ hg
  have hdb : (S.nm f == ("__debug__" : Str)) = false := beq_eq_false_iff_ne.mpr hd
  have hk : PySem.W.keepIn X.K (.ref (L.fa f)) = true := by rw [F.K]; exact g.keep
  have red : ∀ {σ H Q}, tE L px W (fun σ h => (fas σ h).bind fun xs h => callN L.T n px.isSome m f xs h) σ H Q → tAs L px W fas σ H fun vs H1 => spX L n f px vs H1 Q fun c d H' => W c d σ H' := fun {σ H Q} d => by
    obtain ⟨ψ, φ, G, σE, h, rel, er, d⟩ := d
    exact ⟨ψ, φ, G, σE, h, rel, er, d.bind fun xs h1 φ1 G1 H1 vs p1 l1 rel1 r1 d1 => call_sp rel1 r1 d1⟩
  refine ⟨fun pins s σ H Q I h => ?_⟩
  refine wpAny_Call_Name_kw (ld_glob I hgl (by rw [F.mg]; exact hm) ?_ hdb)
  simp only [List.all_cons, Bool.and_eq_true] at hes
  refine PySem.W.callWith_K (h₀ := X.base) I.ok.mod.kin hk (thn (ha.run pos pins s σ H _ I (red h)) fun us s1 ⟨vs, H1, I1, r, q⟩ => ⟨I1.kIn, ?_⟩) (starEach_ns hes.1) (any_ns hes.2)
  exact run_good F tk g I1 r q
theorem pe_own0 {f : Nat} {F0 : Fn} (F : Fit L S n px X) (tk : L2N.Takes X W) (C : CallsOk L n) (N : NmOk L S) (hf : L.T.fn f = some F0) (hg : isGl S.sc (S.nm f) = true) :
    PE X (.Call (.Name (S.nm f) p) [] [] pos) (tE L px W fun σ h => callN L.T n px.isSome m f [] h) := by
  obtain ⟨fd, ps, g⟩ := C f F0 hf
  obtain ⟨hm, hd⟩ := N.fn f F0 hf
  have hgl : Gl X (S.nm f) := F.gl _ hg
  have hdb : (S.nm f == ("__debug__" : Str)) = false := beq_eq_false_iff_ne.mpr hd
  have hk : PySem.W.keepIn X.K (.ref (L.fa f)) = true := by rw [F.K]; exact g.keep
  refine ⟨fun pins s σ H Q I h => ?_⟩
  obtain ⟨ψ, φ, G, σE, h, rel, er, d⟩ := h
  refine wpAny_Call_Name_kw (ld_glob I hgl (by rw [F.mg]; exact hm) ?_ hdb)
  exact PySem.W.callWith_K0 I.kIn hk (run_good (us := []) (vs := []) F tk g I .nil (call_sp (xs := []) rel rfl d))

/-! ### argument lists -/
theorem pxs_nil : PA X [] (tXs L px W fun _ h => .ok [] h) := (pa_nil).imp fun σ H Q d => by
  obtain ⟨ψ, φ, G, σE, h, rel, er, d⟩ := d
  exact d.val rel rfl
theorem pxs_cons {fa : Env → Hb → FV.R D} {fr : Env → Hb → FV.R (List D)} (hn : noStar e = true) (ha : PE X e (tE L px W fa)) (hr : PA X es (tXs L px W fr)) :
    PA X (e :: es) (tXs L px W fun σ h => (fa σ h).bind fun x h => (fr σ h).bind fun xs h => .ok (x :: xs) h) :=
  (pa_cons ha hr (starEach_ns hn)).imp fun σ H Q d => by
    refine tR.two (ρ1 := Rep L) (ρ2 := Reps L) reps_mono d fun ψ φ G H h a v b vs rel r1 r2 d1 => ?_
    exact d1.val rel (Reps.cons r1 r2)
theorem pas_nil : PA X [] (tAs L px W fun _ h => .ok [] h) := (pa_nil).imp fun σ H Q d => by
  obtain ⟨ψ, φ, G, σE, h, rel, er, d⟩ := d
  exact d.val rel rfl
theorem pas_cons {fa : Env → Hb → FV.R D} {fr : Env → Hb → FV.R (List Sl)} (hn : noStar e = true) (ha : PE X e (tE L px W fa)) (hr : PA X es (tAs L px W fr)) :
    PA X (e :: es) (tAs L px W fun σ h => (fa σ h).bind fun x h => (fr σ h).bind fun xs h => .ok (.v x :: xs) h) :=
  (pa_cons ha hr (starEach_ns hn)).imp fun σ H Q d => by
    refine tR.two (ρ1 := Rep L) (ρ2 := SReps L px) reps_mono d fun ψ φ G H h a v b vs rel r1 r2 d1 => ?_
    exact d1.val rel ⟨v, vs, rfl, r1, r2⟩
/-- a slot with the caught exception -/
theorem pas_exc {i : Nat} {x : Str} {xp : Pos} {fr : Env → Hb → FV.R (List Sl)} (F : Fit L S n px X) (hi : S.N[i]? = some x) (hv : isVis S.sc x = true) (h1 : (x == ("__debug__" : Str)) = false) (h2 : (x == ("__classdict__" : Str)) = false) (hr : PA X es (tAs L px W fr)) :
    PA X (.Name x xp :: es) (tAs L px W fun σ h => match getX σ i with
      | some (c, ns, vs) => (fr σ h).bind fun xs h => .ok (.x c ns vs :: xs) h
      | none => .st) :=
  (pa_cons (pe_var (i := i) (by rw [F.N]; exact hi) (F.vis x hv) h1 h2) hr (starEach_ns rfl)).imp fun σ H Q d => by
    obtain ⟨ψ, φ, G, σE, h, rel, er, d⟩ := d
    dsimp only at d
    split at d
    · rename_i c ns vs e
      have es' : σE[i]? = some (some (.x c ns vs)) := by
        unfold getX at e
        split at e
        · rename_i q; cases e; exact q
        · cases e
      obtain ⟨v, e1, e2⟩ := er.2 i _ es'
      refine ⟨v, e1, ψ, φ, G, σE, h, rel, er, d.bind fun xs h1 φ1 G1 H1 ws p1 l1 rel1 r1 d1 => ?_⟩
      exact d1.val rel1 ⟨v, ws, rfl, e2.mono p1 l1, r1⟩
    · exact d.elim

/-! ### simple expressions -/
theorem pe_slot {i : Nat} {x : Str} {xp : Pos} (F : Fit L S n px X) (hi : S.N[i]? = some x) (hv : isVis S.sc x = true) (h1 : (x == ("__debug__" : Str)) = false) (h2 : (x == ("__classdict__" : Str)) = false) :
    PE X (.Name x xp) (tE L px W fun σ h => optV (getV σ i) h) :=
  (pe_var (i := i) (by rw [F.N]; exact hi) (F.vis x hv) h1 h2).imp fun σ H Q d => by
    obtain ⟨ψ, φ, G, σE, h, rel, er, d⟩ := d
    dsimp only at d
    cases e : getV σE i with
    | none => rw [e] at d; exact d.elim
    | some a =>
      rw [e] at d
      have es' : σE[i]? = some (some (.v a)) := by
        unfold getV at e
        split at e
        · rename_i q; cases e; exact q
        · cases e
      obtain ⟨v, e1, e2⟩ := er.2 i _ es'
      exact ⟨v, e1, d.val rel e2⟩
theorem pe_const {a : D} {v : V} (he : PE X e (tC v)) (r : ∀ φ G, Rep L φ G a v) : PE X e (tE L px W fun _ h => .ok a h) := he.imp fun σ H Q d => by
  obtain ⟨ψ, φ, G, σE, h, rel, er, d⟩ := d
  exact d.val rel (r φ G)
theorem pe_tupE {k : Nat} {fs : Env → Hb → FV.R (List D)} (ha : PA X es (tXs L px W fs)) : PE X (.Tuple es k pos) (tE L px W fun σ h => (fs σ h).bind fun xs h => if xs.length ≤ lineN then .ok (.tup xs) h else .st) :=
  (pe_tup ha).imp fun σ H Q d => by
    refine tR.one (ρ1 := Reps L) d fun ψ φ G H h xs vs rel r d1 => ?_
    obtain ⟨hc, d2⟩ := DenR.ite d1
    exact ⟨by rw [← r.length, ← lineN_eq]; exact hc, fun p n => new_tup rel r d2 p n⟩
theorem pe_lstE {b : Bool} {fs : Env → Hb → FV.R (List D)} (ha : PA X es (tXs L px W fs)) : PE X (.List es pos) (tE L px W fun σ h => (fs σ h).bind fun xs h => if xs.length ≤ lineN then mkL b xs h else .st) :=
  (pe_lst ha).imp fun σ H Q d => by
    refine tR.one (ρ1 := Reps L) d fun ψ φ G H h xs vs rel r d1 => ?_
    obtain ⟨hc, d2⟩ := DenR.ite d1
    exact ⟨by rw [← r.length, ← lineN_eq]; exact hc, fun p n => new_lst rel r d2 p n⟩

/-! ### tests -/
variable {fa fb : Env → Hb → FV.R D} {ga gb : Env → Hb → FV.R Bool} {x y t : Expr}
theorem pt_plain (hp : plainT x = true) (ha : PE X x (tE L px W fa)) : PT X x (tT L px W fun σ h => (fa σ h).bind truthR) :=
  (pt_truth ha (plainT_of hp)).imp fun σ H Q d => by
    refine tR.one (ρ1 := Rep L) d fun ψ φ G H h a v rel r d1 => ?_
    unfold truthR at d1
    split at d1
    · rename_i k e
      exact ⟨k, truth_rep rel r e, d1.val rel rfl⟩
    · exact d1.elim
theorem pt_notE (ha : PT X x (tT L px W ga)) : PT X (.UnaryOp .Not x pos) (tT L px W fun σ h => (ga σ h).bind fun k h => .ok (!k) h) :=
  (pt_not ha).imp fun σ H Q d => by
    refine tR.one (ρ1 := BRep) d fun ψ φ G H h a v rel r d1 => ?_
    cases r
    exact d1.val rel rfl
theorem pt_iteE (ht : PT X t (tT L px W ga)) {ha hb : Env → Hb → FV.R Bool} (h1 : PT X x (tT L px W ha)) (h2 : PT X y (tT L px W hb)) : True := trivial
theorem pe_iteE (ht : PT X t (tT L px W ga)) (h1 : PE X x (tE L px W fa)) (h2 : PE X y (tE L px W fb)) : PE X (.IfExp t x y pos) (tE L px W fun σ h => (ga σ h).bind fun k h => if k then fa σ h else fb σ h) :=
  (pe_ifExp ht h1 h2).imp fun σ H Q d => by
    obtain ⟨ψ, φ, G, σE, h, rel, er, d⟩ := d
    refine ⟨ψ, φ, G, σE, h, rel, er, d.bind fun k h1 φ1 G1 H1 c p1 l1 rel1 r1 d1 => ?_⟩
    cases r1
    cases k with
    | true => exact ⟨ψ, φ1, G1, σE, h1, rel1, er.mono p1 l1, d1⟩
    | false => exact ⟨ψ, φ1, G1, σE, h1, rel1, er.mono p1 l1, d1⟩
/-- a test of 'and', 'or' does not look at its own whole -/
theorem pw_of {op : BoolOp} {es : List Expr} {tt : TT} (h : PT X (.BoolOp op es pos) tt) : PW X (.BoolOp op es pos) tt := ⟨fun whole pins s σ H Q I q => h.run pins s σ H Q I q⟩
theorem pt_andE {rest : List Expr} (ha : PT X x (tT L px W ga)) (hb : PT X (.BoolOp .And (y :: rest) pos) (tT L px W gb)) : PT X (.BoolOp .And (x :: y :: rest) pos) (tT L px W fun σ h => (ga σ h).bind fun k h => if k then gb σ h else .ok false h) :=
  (pw_and ha (pw_of hb)).pt.imp fun σ H Q d => by
    obtain ⟨ψ, φ, G, σE, h, rel, er, d⟩ := d
    refine ⟨ψ, φ, G, σE, h, rel, er, d.bind fun k h1 φ1 G1 H1 c p1 l1 rel1 r1 d1 => ?_⟩
    cases r1
    cases k with
    | true => exact ⟨ψ, φ1, G1, σE, h1, rel1, er.mono p1 l1, d1⟩
    | false => exact d1.val rel1 rfl
theorem pt_orE {rest : List Expr} (ha : PT X x (tT L px W ga)) (hb : PT X (.BoolOp .Or (y :: rest) pos) (tT L px W gb)) : PT X (.BoolOp .Or (x :: y :: rest) pos) (tT L px W fun σ h => (ga σ h).bind fun k h => if k then .ok true h else gb σ h) :=
  (pw_or ha (pw_of hb)).pt.imp fun σ H Q d => by
    obtain ⟨ψ, φ, G, σE, h, rel, er, d⟩ := d
    refine ⟨ψ, φ, G, σE, h, rel, er, d.bind fun k h1 φ1 G1 H1 c p1 l1 rel1 r1 d1 => ?_⟩
    cases r1
    cases k with
    | true => exact d1.val rel1 rfl
    | false => exact ⟨ψ, φ1, G1, σE, h1, rel1, er.mono p1 l1, d1⟩
theorem pt_and1 (ha : PT X x (tT L px W ga)) : PT X (.BoolOp .And [x] pos) (tT L px W ga) := (pw_and1 ha).pt
theorem pt_or1 (ha : PT X x (tT L px W ga)) : PT X (.BoolOp .Or [x] pos) (tT L px W ga) := (pw_or1 ha).pt
theorem pe_notE (ha : PE X x (tE L px W fa)) : PE X (.UnaryOp .Not x pos) (tE L px W fun σ h => (fa σ h).bind fun a h => match truth h a with
    | some k => .ok (.bl (!k)) h
    | none => .st) :=
  (pe_notT ha).imp fun σ H Q d => by
    refine tR.one (ρ1 := Rep L) d fun ψ φ G H h a v rel r d1 => ?_
    split at d1
    · rename_i k e
      exact ⟨k, truth_rep rel r e, d1.val rel (by simp [Rep])⟩
    · exact d1.elim
theorem pe_andE {rest : List Expr} (ha : PE X x (tE L px W fa)) (hb : PE X (.BoolOp .And (y :: rest) pos) (tE L px W fb)) : PE X (.BoolOp .And (x :: y :: rest) pos) (tE L px W fun σ h => (fa σ h).bind fun a h => match truth h a with
    | some true => fb σ h
    | some false => .ok a h
    | none => .st) :=
  (pe_andT ha hb).imp fun σ H Q d => by
    obtain ⟨ψ, φ, G, σE, h, rel, er, d⟩ := d
    refine ⟨ψ, φ, G, σE, h, rel, er, d.bind fun k h1 φ1 G1 H1 c p1 l1 rel1 r1 d1 => ?_⟩
    split at d1
    · rename_i e
      exact ⟨true, truth_rep rel1 r1 e, ψ, φ1, G1, σE, h1, rel1, er.mono p1 l1, d1⟩
    · rename_i e
      exact ⟨false, truth_rep rel1 r1 e, d1.val rel1 r1⟩
    · exact d1.elim
theorem pe_orE {rest : List Expr} (ha : PE X x (tE L px W fa)) (hb : PE X (.BoolOp .Or (y :: rest) pos) (tE L px W fb)) : PE X (.BoolOp .Or (x :: y :: rest) pos) (tE L px W fun σ h => (fa σ h).bind fun a h => match truth h a with
    | some true => .ok a h
    | some false => fb σ h
    | none => .st) :=
  (pe_orT ha hb).imp fun σ H Q d => by
    obtain ⟨ψ, φ, G, σE, h, rel, er, d⟩ := d
    refine ⟨ψ, φ, G, σE, h, rel, er, d.bind fun k h1 φ1 G1 H1 c p1 l1 rel1 r1 d1 => ?_⟩
    split at d1
    · rename_i e
      exact ⟨true, truth_rep rel1 r1 e, d1.val rel1 r1⟩
    · rename_i e
      exact ⟨false, truth_rep rel1 r1 e, ψ, φ1, G1, σE, h1, rel1, er.mono p1 l1, d1⟩
    · exact d1.elim
end
end FV

set_option maxRecDepth 100000
/-! What is walked; targets; comprehensions. -/
namespace FV
open PySem PySem.Spec L2 L2H
variable {L : Lw} {S : Ck} {n : Nat}

/-- the iterator J gives these items -/
def Walk (L : Lw) (h : Hb) (φ : List Addr) (G : Hp) (p : D × List D) (J : It) : Prop :=
  ∀ ψ' φ' G' H' h' i, φ <+: φ' → RLe G G' → Rel L ψ' φ' G' H' h' → stays h p.1 h' = true →
    (i < p.2.length → J.go i H' ∧ ∀ x H'', J.yld i H' x H'' → ∃ d, H'' = H' ∧ p.2[i]? = some d ∧ Rep L φ' G' d x) ∧ (p.2.length ≤ i → J.stop i H')
def tS (L : Lw) (px : Px) (W : WX) (f : Env → Hb → FV.R (D × List D)) : TI := fun σV H Q =>
  ∃ ψ φ G σ h, Rel L ψ φ G H h ∧ ERep L px φ G σ σV ∧ match f σ h with
    | .ok p h1 => ∀ φ1 G1 H1 J, φ <+: φ1 → RLe G G1 → Rel L ψ φ1 G1 H1 h1 → Walk L h1 φ1 G1 p J → Q J H1
    | .ex c ns vs h1 => ∀ φ1 G1 H1 d, φ <+: φ1 → RLe G G1 → Rel L ψ φ1 G1 H1 h1 → XRep L φ1 G1 ns vs d → W (.ref (L.ecl c)) d σV H1
    | .st => False
section
variable {X : Cx} {px : Px} {W : WX} {m : Nat} {e x y tg : Expr} {es : List Expr} {p pos : Pos} {fa fb : Env → Hb → FV.R D}

theorem walk_rng {h : Hb} {φ : List Addr} {G : Hp} {lo : Int} {k : Nat} : Walk L h φ G (.non, rngL lo k) (Itr lo k) := fun ψ' φ' G' H' h' i p l rel st => by
  have hl : (rngL lo k).length = k := by simp [rngL]
  refine ⟨fun hi => ⟨by rw [hl] at hi; exact hi, fun x H'' y => ?_⟩, fun hi => by rw [hl] at hi; exact hi⟩
  obtain ⟨e1, e2⟩ := y
  refine ⟨.int (lo + i), e1, ?_, by simp [Rep, e2]⟩
  rw [hl] at hi
  simp [rngL, hi]
theorem walk_of {h : Hb} {φ : List Addr} {G : Hp} {d : D} {xs : List D} {J : It} {R' : Hp → List V → Prop}
    (hgo : ∀ i H vs x, R' H vs → vs[i]? = some x → J.go i H) (hy : ∀ i H vs x H', R' H vs → J.yld i H x H' → H' = H ∧ vs[i]? = some x) (hst : ∀ i H vs, R' H vs → vs.length ≤ i → J.stop i H)
    (k : ∀ ψ' φ' G' H' h', φ <+: φ' → RLe G G' → Rel L ψ' φ' G' H' h' → stays h d h' = true → ∃ vs, R' H' vs ∧ Reps L φ' G' xs vs) : Walk L h φ G (d, xs) J := fun ψ' φ' G' H' h' i p l rel st => by
  obtain ⟨vs, r, rs⟩ := k ψ' φ' G' H' h' p l rel st
  have hl := rs.length
  refine ⟨fun hi => ?_, fun hi => hst i H' vs r (by rw [← hl]; exact hi)⟩
  have hi2 : i < vs.length := by rw [← hl]; exact hi
  refine ⟨hgo i H' vs vs[i] r (by simp [hi2]), fun x H'' y => ?_⟩
  obtain ⟨e1, e2⟩ := hy i H' vs x H'' r y
  obtain ⟨v, e3, rv⟩ := rs.get (show xs[i]? = some xs[i] by simp [show i < xs.length from hi])
  rw [e2] at e3
  cases e3
  exact ⟨xs[i], e1, by simp [show i < xs.length from hi], rv⟩
theorem walk_seq {K : PySem.W.Frag} {h : Hb} {ψ : List (Addr × HO)} {φ : List Addr} {G H : Hp} {d : D} {xs : List D} {v : V} (rel : Rel L ψ φ G H h) (r : Rep L φ G d v) (e : seqL h d = some xs) :
    ∃ a, v = .ref a ∧ (∃ vs, SqL K H a vs) ∧ Walk L h φ G (d, xs) (Itl K a) := by
  obtain ⟨a, vs0, e0, q0, _⟩ := seqL_rep rel r e
  refine ⟨a, e0, ⟨vs0, .inl q0⟩, walk_of (R' := fun H vs => SqL K H a vs) (fun i H vs x h1 h2 => ⟨vs, x, h1, h2⟩) (fun i H vs x H' h1 h2 => ⟨h2.1, h2.2 vs h1⟩) (fun i H vs h1 h2 => ⟨vs, h1, h2⟩) fun ψ' φ' G' H' h' p l rel' st => ?_⟩
  cases d with
  | lst ys =>
    cases e
    simp only [Rep] at r
    obtain ⟨b, vs, e1, q, rs⟩ := r
    rw [e0] at e1
    cases e1
    exact ⟨vs, .inl (rel'.rd (l _ _ q)), rs.mono p l⟩
  | box j =>
    simp only [seqL] at e
    split at e
    · rename_i ys q
      cases e
      simp only [Rep] at r
      obtain ⟨b, e1, eb⟩ := r
      rw [e0] at e1
      cases e1
      have st' : bx h' j = bx h j := by
        simp only [stays] at st
        exact @of_decide_eq_true _ (_) st
      obtain ⟨c, ec, vs, hv, rs⟩ := rel'.box j _ (st'.trans q)
      rw [pre_get p eb] at ec
      cases ec
      exact ⟨vs, .inl (.inl hv), rs⟩
    · cases e
  | _ => cases e
theorem walk_tup {K : PySem.W.Frag} {h : Hb} {ψ : List (Addr × HO)} {φ : List Addr} {G H : Hp} {xs : List D} {v : V} (rel : Rel L ψ φ G H h) (r : Rep L φ G (.tup xs) v) :
    ∃ a, v = .ref a ∧ (∃ vs, SqT K H a vs) ∧ Walk L h φ G (.tup xs, xs) (Itt K a) := by
  simp only [Rep] at r
  obtain ⟨a, vs, rfl, q, rs⟩ := r
  refine ⟨a, rfl, ⟨vs, .inl (rel.rd q)⟩, walk_of (R' := fun H ws => SqT K H a ws) (fun i H vs x h1 h2 => ⟨vs, x, h1, h2⟩) (fun i H vs x H' h1 h2 => ⟨h2.1, h2.2 vs h1⟩) (fun i H vs h1 h2 => ⟨vs, h1, h2⟩) fun ψ' φ' G' H' h' p l rel' st => ?_⟩
  exact ⟨vs, .inl (rel'.rd (l _ _ q)), rs.mono p l⟩
theorem reps_signs {φ : List Addr} {G : Hp} : ∀ {z : Cs}, Reps L φ G (z.map fun c => .str [c]) (z.map fun c => V.str ⟨#[c]⟩)
  | [] => by simp [Reps]
  | c :: z => Reps.cons (by simp [Rep, toS]) reps_signs
theorem walk_str {h : Hb} {φ : List Addr} {G : Hp} {z : Cs} : Walk L h φ G (.str z, z.map fun c => .str [c]) (Its (toS z)) := by
  refine walk_of (R' := fun H ws => ws = z.map fun c => V.str ⟨#[c]⟩) (fun i H vs x h1 h2 => ?_) (fun i H vs x H' h1 h2 => ?_) (fun i H vs h1 h2 => ?_) fun ψ' φ' G' H' h' p l rel' st => ⟨_, rfl, reps_signs⟩
  · subst h1
    have := (List.getElem?_eq_some_iff.mp h2).1
    show i < (toS z).cps.size
    simpa [toS] using this
  · subst h1
    obtain ⟨e1, c, e2, e3⟩ := h2
    refine ⟨e1, ?_⟩
    have : z[i]? = some c := by simpa [toS] using e2
    simp [this, e3]
  · subst h1
    show (toS z).cps.size ≤ i
    simpa [toS] using h2
theorem keys_pair : ∀ {ks : List Kk} {vs : List V} {i : Nat} {k : Key} {v : V}, ks.length = vs.length → ((ks.map kK).zip vs)[i]? = some (k, v) → (ks.map fun k => kV (kK k))[i]? = some (kV k)
  | [], _, i, k, v, _, e => by simp at e
  | _ :: _, [], i, k, v, h, _ => by simp at h
  | a :: ks, b :: vs, i, k, v, h, e => by
    cases i with
    | zero => simp at e ⊢; rw [e.1]
    | succ i => simpa using keys_pair (by simpa using h) (by simpa using e)
theorem walk_keys {h : Hb} {φ : List Addr} {G : Hp} {ks : List Kk} {ds : List D} {a : Addr} {o : Obj} {vs : List V} (hl : ks.length = vs.length) (q : G a = some (.frz o (.dK ((ks.map kK).zip vs)))) :
    Walk L h φ G (.dic ks ds, ks.map dKey) (Itk a o ((ks.map kK).zip vs)) := by
  have len : ((ks.map kK).zip vs).length = ks.length := by rw [List.length_zip, List.length_map]; omega
  refine walk_of (R' := fun H ws => H a = some (.frz o (.dK ((ks.map kK).zip vs))) ∧ ws = ks.map fun k => kV (kK k)) (fun i H ws x h1 h2 => ?_) (fun i H ws x H' h1 h2 => ?_) (fun i H ws h1 h2 => ?_) fun ψ' φ' G' H' h' p l rel' st => ?_
  · obtain ⟨h1, rfl⟩ := h1
    refine ⟨h1, ?_⟩
    have := (List.getElem?_eq_some_iff.mp h2).1
    rw [len]
    simpa using this
  · obtain ⟨h1, rfl⟩ := h1
    obtain ⟨e1, k, v, e2, e3⟩ := h2
    exact ⟨e1, by rw [keys_pair hl e2, e3]⟩
  · obtain ⟨h1, rfl⟩ := h1
    exact ⟨h1, by rw [len]; simpa using h2⟩
  · exact ⟨_, ⟨rel'.le _ _ (l.fz a _ _ q), rfl⟩, reps_keys⟩
/-! ### a frozen dict is locked where it is walked -/
theorem Rel.lock {ψ : List (Addr × HO)} {φ : List Addr} {G H : Hp} {h : Hb} (rel : Rel L ψ φ G H h) {a : Addr} {u : HO} {od : Obj} (e : G a = some u) (mu : Mut (some u)) : RLe G (upd G a (.frz od u)) ∧ Rel L ψ φ (upd G a (.frz od u)) (upd H a (.frz od u)) h := by
  have nf : ∀ b ∈ φ, b ≠ a := fun b hb z => by have := rel.free b hb; rw [z, e] at this; cases this
  have le : RLe G (upd G a (.frz od u)) := by
    refine ⟨fun c w r => ?_, fun c o w r => ?_⟩
    · by_cases z : c = a
      · subst z
        rcases r with r | ⟨o, r⟩
        · rw [e] at r
          cases r
          exact .inr ⟨od, upd_same⟩
        · rw [e] at r
          cases r
          exact mu.elim
      · unfold Rd
        rw [upd_ne z]
        exact r
    · by_cases z : c = a
      · subst z
        rw [e] at r
        cases r
        exact mu.elim
      · rw [upd_ne z]; exact r
  refine ⟨le, fun b o q => ?_, rel.nd, rel.len, fun b hb => ?_, fun b hb => ?_, fun q hq => ?_, fun i ob q => ?_⟩
  · by_cases z : b = a
    · subst z; rw [upd_same] at q ⊢; exact q
    · rw [upd_ne z] at q ⊢; exact rel.le b o q
  · rw [upd_ne (nf b hb)]; exact rel.free b hb
  · rw [upd_ne (nf b hb)]; exact rel.there b hb
  · obtain ⟨e1, e2, e3⟩ := rel.priv q hq
    have : q.1 ≠ a := fun z => by rw [z, e] at e3; cases e3
    rw [upd_ne this, upd_ne this]
    exact ⟨e1, e2, e3⟩
  · obtain ⟨b, eb, q⟩ := rel.box i ob q
    exact ⟨b, eb, q.mono (List.prefix_refl _) le (upd_ne (nf b (List.mem_of_getElem? eb)))⟩
/-- the value is locked, if it is not already -/
def tLk (t : TE) : TE := fun σ H Q => t σ H fun x H1 => (∃ a u, x = .ref a ∧ H1 a = some u ∧ Mut (some u) ∧ ∀ od, Q x (upd H1 a (.frz od u))) ∨ ∃ a o u, x = .ref a ∧ H1 a = some (.frz o u) ∧ Q x H1
theorem pe_lk {t : TE} (h : PE X e t) : PE X e (tLk t) := by
  refine ⟨fun pins s σ H Q I q => ?_⟩
  refine thn (h.run pins s σ H _ I q) fun v s1 ⟨x, H1, I1, r1, q1⟩ => ?_
  rcases q1 with ⟨a, u, rfl, e, mu, q1⟩ | ⟨a, o, u, rfl, e, q1⟩
  · obtain ⟨od, I2⟩ := I1.lock e mu
    exact ⟨_, _, I2, r1, q1 od⟩
  · exact ⟨_, _, I1, r1, q1⟩
theorem pi_src (F : Fit L S n px X) (ha : PE X x (tE L px W fa)) : PI X tg x (tS L px W fun σ h => (fa σ h).bind fun d h => match items h d with
    | some xs => .ok (d, xs) h
    | none => .st) := by
  refine ⟨fun pins s σ H Q I q => ?_⟩
  obtain ⟨ψ, φ, G, σE, h, rel, er, d⟩ := q
  dsimp only at d
  cases e : fa σE h with
  | st => rw [e] at d; exact d.elim
  | ex c ns vs h1 =>
    rw [e] at d
    exact (pi_list (tg := tg) ha).run pins s σ H Q I ⟨ψ, φ, G, σE, h, rel, er, by rw [e]; exact d⟩
  | ok a h1 =>
    rw [e] at d
    simp only [FV.R.bind_ok] at d
    have bad : items h1 a ≠ none := fun z => by rw [z] at d; exact d
    obtain ⟨xs, ex⟩ := Option.ne_none_iff_exists'.mp bad
    rw [ex] at d
    simp only at d
    have lists : seqL h1 a = some xs → wpAny (model X.prog X.w) X.A (eval x X.env) (fun v s1 => wpAny (model X.prog X.w) X.A (pyIter v) (PIE X pins σ tg Q) X.xe s1) X.xe s := fun q => by
      refine (pi_list (tg := tg) ha).run pins s σ H Q I ⟨ψ, φ, G, σE, h, rel, er, ?_⟩
      rw [e]
      refine fun φ1 G1 H1 v p1 l1 rel1 r1 => ?_
      obtain ⟨b, rfl, hs, w⟩ := walk_seq (K := X.K) rel1 r1 q
      exact ⟨b, rfl, hs, d φ1 G1 H1 _ p1 l1 rel1 w⟩
    unfold items at ex
    split at ex
    · rename_i ys q
      cases ex
      exact lists q
    · split at ex
      · cases ex
        refine (pi_tup (tg := tg) ha).run pins s σ H Q I ⟨ψ, φ, G, σE, h, rel, er, ?_⟩
        rw [e]
        refine fun φ1 G1 H1 v p1 l1 rel1 r1 => ?_
        obtain ⟨b, rfl, hs, w⟩ := walk_tup (K := X.K) rel1 r1
        exact ⟨b, rfl, hs, d φ1 G1 H1 _ p1 l1 rel1 w⟩
      · rename_i z _
        split at ex
        · cases ex
          refine (pi_str (tg := tg) ha).run pins s σ H Q I ⟨ψ, φ, G, σE, h, rel, er, ?_⟩
          rw [e]
          refine fun φ1 G1 H1 v p1 l1 rel1 r1 => ?_
          exact ⟨toS z, by simpa [Rep] using r1, d φ1 G1 H1 _ p1 l1 rel1 walk_str⟩
        · cases ex
      · rename_i ks ds _
        cases ex
        refine (pi_keys (tg := tg) (pe_lk ha)).run pins s σ H Q I ⟨ψ, φ, G, σE, h, rel, er, ?_⟩
        rw [e]
        refine fun φ1 G1 H1 v p1 l1 rel1 r1 => ?_
        simp only [Rep] at r1
        obtain ⟨b, vs, rfl, hl, nd, q, rs⟩ := r1
        have hlv : ks.length = vs.length := hl.trans rs.length
        rcases q with q | ⟨o, q⟩
        · refine .inl ⟨b, _, rfl, rel1.le _ _ q, trivial, fun od => ⟨b, od, rfl, .inl ⟨_, upd_same, ?_⟩⟩⟩
          obtain ⟨le, rel2⟩ := rel1.lock (od := od) q trivial
          exact d φ1 _ _ _ p1 (l1.trans le) rel2 (walk_keys hlv upd_same)
        · exact .inr ⟨b, o, _, rfl, rel1.le _ _ q, b, o, rfl, .inl ⟨_, rel1.le _ _ q, d φ1 G1 H1 _ p1 l1 rel1 (walk_keys hlv q)⟩⟩
      · cases ex
end
end FV

set_option maxRecDepth 100000
/-! Ranges, targets, comprehensions. -/
namespace FV
open PySem PySem.Spec L2 L2H
variable {L : Lw} {S : Ck} {n : Nat}
abbrev WF : WX := fun _ _ _ _ => False
theorem takes_F {X : Cx} : L2N.Takes X WF := fun u s' ⟨_, _, _, _, _, _, _, _, _, _, _, _, _, _, _, _, f⟩ => f.elim
section
variable {α β γ δ : Type} {ρ : List Addr → Hp → α → β → Prop} {ρ' : List Addr → Hp → γ → δ → Prop} {W W2 : WX} {σV σV2 : L2.St} {φ φ' : List Addr} {G G' H : Hp} {h : Hb} {ψ ψ2 : List (Addr × HO)}
theorem DenR.nox {r : FV.R α} {g : α → Hb → FV.R γ} {Q : δ → Hp → Prop} {Q1 : β → Hp → Prop} (x : DenR L ψ ρ' W σV φ G (r.nox.bind g) Q)
    (k : ∀ a h1 φ1 G1 H1 b, φ <+: φ1 → RLe G G1 → Rel L ψ2 φ1 G1 H1 h1 → ρ φ1 G1 a b → DenR L ψ ρ' W σV φ1 G1 (g a h1) Q → Q1 b H1) : DenR L ψ2 ρ W2 σV2 φ G r Q1 := by
  cases r with
  | ok a h1 => exact fun φ1 G1 H1 b p l rel rb => k a h1 φ1 G1 H1 b p l rel rb (DenR.mono x p l)
  | ex c ns vs h' => exact x.elim
  | st => exact x.elim
end
section
variable {X : Cx} {px : Px} {W : WX} {m : Nat} {e x y tg : Expr} {es : List Expr} {p pos : Pos} {fa fb : Env → Hb → FV.R D}
/-! ### ranges -/
theorem pi_rng1 (F : Fit L S n px X) (M : MgOk L.mg) (hg : isGl S.sc "range" = true) (hx : noStar x = true) (ha : PE X x (tE L px W fa)) : PI X tg (.Call (.Name "range" p) [x] [] pos) (tS L px W fun σ h => (fa σ h).bind fun d h => match d with
    | .int j => if inR j then .ok (.non, rngL 0 j.toNat) h else .st
    | _ => .st) := by
  refine ⟨fun pins s σ H Q I q => (pi_range1 (F.gl _ hg) (by rw [F.mg]; exact M.free _ (by simp)) (pa_cons ha pa_nil (starEach_ns hx)) (starEach_ns hx)).run pins s σ H Q I ?_⟩
  obtain ⟨ψ, φ, G, σE, h, rel, er, d⟩ := q
  refine ⟨ψ, φ, G, σE, h, rel, er, ?_⟩
  dsimp only at d
  cases e : fa σE h with
  | st => rw [e] at d; exact d
  | ex c ns vs h1 => rw [e] at d; exact d
  | ok a h1 =>
    rw [e] at d
    refine fun φ1 G1 H1 v p1 l1 rel1 r1 => ?_
    simp only [FV.R.bind_ok] at d
    cases a with
    | int j =>
      by_cases hc : inR j = true
      · simp only [hc, if_true] at d
        simp only [inR, decide_eq_true_eq] at hc
        exact ⟨j, by simpa [Rep] using r1, hc.1, hc.2, d φ1 G1 H1 _ p1 l1 rel1 walk_rng⟩
      · simp [hc] at d
    | _ => exact d.elim
theorem pi_rng1H (F : Fit L S n px X) (M : MgOk L.mg) (hg : isGl S.sc "range" = true) (hx : noStar x = true) (ha : PE X x (tE L px W fa)) : PIH X tg (.Call (.Name "range" p) [x] [] pos) (tS L px W fun σ h => (fa σ h).bind fun d h => match d with
    | .int j => if inR j then .ok (.non, rngL 0 j.toNat) h else .st
    | _ => .st) := by
  refine ⟨fun pins s σ H Q I q => (pi_range1H (F.gl _ hg) (by rw [F.mg]; exact M.free _ (by simp)) (pa_cons ha pa_nil (starEach_ns hx)) (starEach_ns hx)).run pins s σ H Q I ?_⟩
  obtain ⟨ψ, φ, G, σE, h, rel, er, d⟩ := q
  refine ⟨ψ, φ, G, σE, h, rel, er, ?_⟩
  dsimp only at d
  cases e : fa σE h with
  | st => rw [e] at d; exact d
  | ex c ns vs h1 => rw [e] at d; exact d
  | ok a h1 =>
    rw [e] at d
    refine fun φ1 G1 H1 v p1 l1 rel1 r1 => ?_
    simp only [FV.R.bind_ok] at d
    cases a with
    | int j =>
      by_cases hc : inR j = true
      · simp only [hc, if_true] at d
        simp only [inR, decide_eq_true_eq] at hc
        exact ⟨j, by simpa [Rep] using r1, hc.1, hc.2, d φ1 G1 H1 _ p1 l1 rel1 walk_rng⟩
      · simp [hc] at d
    | _ => exact d.elim
theorem pi_rng2 (F : Fit L S n px X) (M : MgOk L.mg) (hg : isGl S.sc "range" = true) (hx : noStar x = true) (hy : noStar y = true) (ha : PE X x (tE L px W fa)) (hb : PE X y (tE L px W fb)) : PI X tg (.Call (.Name "range" p) [x, y] [] pos) (tS L px W fun σ h => (fa σ h).bind fun d h => (fb σ h).bind fun e h => match d, e with
    | .int i, .int j => if inR i && inR j then .ok (.non, rngL i (j - i).toNat) h else .st
    | _, _ => .st) := by
  refine ⟨fun pins s σ H Q I q => (pi_range2 (F.gl _ hg) (by rw [F.mg]; exact M.free _ (by simp)) (pa_cons ha (pa_cons hb pa_nil (starEach_ns hy)) (starEach_ns hx)) (by rw [starEach_ns hx, starEach_ns hy]; rfl) (starEach_ns hy)).run pins s σ H Q I ?_⟩
  obtain ⟨ψ, φ, G, σE, h, rel, er, d⟩ := q
  refine ⟨ψ, φ, G, σE, h, rel, er, ?_⟩
  dsimp only at d
  cases e : fa σE h with
  | st => rw [e] at d; exact d
  | ex c ns vs h1 => rw [e] at d; exact d
  | ok a h1 =>
    rw [e] at d
    refine fun φ1 G1 H1 v p1 l1 rel1 r1 => ⟨ψ, φ1, G1, σE, h1, rel1, er.mono p1 l1, ?_⟩
    simp only [FV.R.bind_ok] at d
    cases e2 : fb σE h1 with
    | st => rw [e2] at d; exact d
    | ex c ns vs h2 =>
      rw [e2] at d
      exact fun φ2 G2 H2 dd p2 l2 => d φ2 G2 H2 dd (p1.trans p2) (l1.trans l2)
    | ok b h2 =>
      rw [e2] at d
      refine fun φ2 G2 H2 u p2 l2 rel2 r2 => ?_
      simp only [FV.R.bind_ok] at d
      cases a with
      | int i =>
        cases b with
        | int j =>
          by_cases hc : (inR i && inR j) = true
          · simp only [hc, if_true] at d
            simp only [inR, Bool.and_eq_true, decide_eq_true_eq] at hc
            exact ⟨i, j, by simp only [Rep] at r1 r2; rw [r1, r2], ⟨hc.1.1, hc.1.2, hc.2.1, hc.2.2⟩, d φ2 G2 H2 _ (p1.trans p2) (l1.trans l2) rel2 walk_rng⟩
          · simp [hc] at d
        | _ => exact d.elim
      | _ => exact d.elim

/-! ### targets -/
def gNames : List Nat → TGs
  | [] => gNil
  | i :: r => gCons (gName i) (gNames r)
def gT (K : PySem.W.Frag) : List Nat → TG
  | [i] => gName i
  | is => gTup K is.length (gNames is)
/-- the target of such slots -/
def chkNames (S : Ck) : List Nat → List Expr → Bool
  | [], [] => true
  | i :: r, .Name x _ :: es => (S.N[i]? == some x) && isLoc S.sc x && chkNames S r es
  | _, _ => false
def chkT (S : Ck) : List Nat → Expr → Bool
  | [i], .Name x _ => (S.N[i]? == some x) && isLoc S.sc x
  | i :: j :: r, .Tuple es _ _ => chkNames S (i :: j :: r) es
  | _, _ => false
theorem pgs_names (F : Fit L S n px X) : ∀ {is : List Nat} {es : List Expr}, chkNames S is es = true → PGs X es (gNames is) ∧ (assignEach es X.env).length = is.length ∧ (assignEach es X.env).findIdx? (·.1) = none
  | [], [], _ => ⟨pgs_nil, rfl, rfl⟩
  | [], _ :: _, h => by simp [chkNames] at h
  | _ :: _, [], h => by simp [chkNames] at h
  | i :: r, e :: es, h => by
    cases e with
    | Name x q =>
      simp only [chkNames, Bool.and_eq_true, beq_iff_eq] at h
      obtain ⟨h1, h2, h3⟩ := pgs_names F h.2
      obtain ⟨l1, l2⟩ := F.loc x h.1.2
      refine ⟨pgs_cons (pg_name (by rw [F.N]; exact F.nd) (by rw [F.N]; exact h.1.1) l1 l2) h1, ?_, ?_⟩
      · show (_ :: assignEach es X.env).length = _
        simp [h2]
      · show ((false, _) :: assignEach es X.env).findIdx? (·.1) = none
        simp [List.findIdx?_cons, h3]
    | _ => simp [chkNames] at h
theorem pg_T (F : Fit L S n px X) {is : List Nat} (hc : X.calm = true ∨ is.length = 1) (h : chkT S is tg = true) : PG X tg (gT X.K is) := by
  match is, tg, h with
  | [i], .Name x _, h =>
    simp only [chkT, Bool.and_eq_true, beq_iff_eq] at h
    obtain ⟨l1, l2⟩ := F.loc x h.2
    exact pg_name (by rw [F.N]; exact F.nd) (by rw [F.N]; exact h.1) l1 l2
  | i :: j :: r, .Tuple es k q, h =>
    obtain ⟨h1, h2, h3⟩ := pgs_names F (is := i :: j :: r) h
    rcases hc with hc | hc
    · exact pg_tup hc h1 h2 h3
    · simp at hc
def setsV (σ : L2.St) : List Nat → List V → L2.St
  | i :: r, v :: vs => setsV (σ.set i (some v)) r vs
  | _, _ => σ
def setsE (σ : Env) : List Nat → List D → Env
  | i :: r, d :: ds => setsE (σ.set i (some (.v d))) r ds
  | _, _ => σ
theorem sets_rep {φ : List Addr} {G : Hp} : ∀ {is : List Nat} {ds : List D} {vs : List V} {σ : Env} {σV : L2.St}, ERep L px φ G σ σV → Reps L φ G ds vs → ERep L px φ G (setsE σ is ds) (setsV σV is vs)
  | [], ds, vs, σ, σV, er, _ => by cases ds <;> cases vs <;> exact er
  | i :: r, [], vs, σ, σV, er, rs => by simp only [Reps] at rs; subst rs; exact er
  | i :: r, d :: ds, vs, σ, σV, er, rs => by
    simp only [Reps] at rs
    obtain ⟨v, t, rfl, r1, r2⟩ := rs
    show ERep L px φ G (setsE (σ.set i (some (.v d))) r ds) (setsV (σV.set i (some v)) r t)
    exact sets_rep (ERep.set er (s := .v d) (v := v) r1) r2
theorem foldl_sets : ∀ {is : List Nat} {ds : List D} {σ : Env}, (is.zip ds).foldl (fun σ p => σ.set p.1 (some (.v p.2))) σ = setsE σ is ds
  | [], ds, σ => by cases ds <;> rfl
  | i :: r, [], σ => rfl
  | i :: r, d :: ds, σ => by
    simp only [List.zip_cons_cons, List.foldl_cons, setsE]
    exact foldl_sets
theorem gNames_of {H : Hp} {Q : L2.St → Hp → Prop} : ∀ {is : List Nat} {vs : List V} {σV : L2.St}, is.length = vs.length → Q (setsV σV is vs) H → gNames is vs σV H Q
  | [], [], σV, _, q => ⟨rfl, q⟩
  | [], _ :: _, _, e, _ => by simp at e
  | _ :: _, [], _, e, _ => by simp at e
  | i :: r, v :: vs, σV, e, q => ⟨v, vs, rfl, gNames_of (by simpa using e) q⟩
/-- the store of an item -/
theorem gT_of {K : PySem.W.Frag} {ψ : List (Addr × HO)} {φ : List Addr} {G H : Hp} {h : Hb} {σ σ' : Env} {σV : L2.St} {d : D} {v : V} {is : List Nat} {Q : L2.St → Hp → Prop} (rel : Rel L ψ φ G H h) (er : ERep L px φ G σ σV) (r : Rep L φ G d v) (e : bindT h σ is d = some σ')
    (q : ∀ vs, ERep L px φ G σ' (setsV σV is vs) → Q (setsV σV is vs) H) : gT K is v σV H Q := by
  have tup : ∀ is : List Nat, (∀ vs, ERep L px φ G σ' (setsV σV is vs) → Q (setsV σV is vs) H) → (match seqT d with
      | some xs => if xs.length = is.length then some ((is.zip xs).foldl (fun σ p => σ.set p.1 (some (.v p.2))) σ) else none
      | none => none) = some σ' → gTup K is.length (gNames is) v σV H Q := fun is q e => by
    cases d with
    | tup xs =>
      simp only [seqT] at e
      split at e
      · rename_i hl
        cases e
        simp only [Rep] at r
        obtain ⟨a, vs, rfl, q1, rs⟩ := r
        refine ⟨a, vs, rfl, .inl (rel.rd q1), by rw [← rs.length, hl], gNames_of (by rw [← hl, rs.length]) (q vs ?_)⟩
        rw [foldl_sets]
        exact sets_rep er rs
      · cases e
    | _ => simp [seqT] at e
  match is, e, q with
  | [i], e, q =>
    simp only [bindT, Option.some.injEq] at e
    subst e
    exact q [v] (ERep.set er (s := .v d) (v := v) r)
  | [], e, q => exact tup _ q e
  | i :: j :: r, e, q => exact tup _ q e
theorem wipe_set {σ : L2.St} {i : Nat} {x : Option V} : ∀ {vs : List Nat}, i ∈ vs → wipe (σ.set i x) vs = wipe σ vs := fun {vs} hi => by
  apply List.ext_getElem?
  intro j
  by_cases hj : j ∈ vs
  · have key : ∀ τ : L2.St, (wipe τ vs)[j]? = if j < τ.length then some none else none := fun τ => by
      by_cases hl : j < τ.length
      · rw [if_pos hl]
        have hlt : j < (wipe τ vs).length := by rw [wipe_length]; exact hl
        rw [List.getElem?_eq_getElem hlt]
        cases q : (wipe τ vs)[j] with
        | none => rfl
        | some w => exact absurd hj (wipe_some (by rw [List.getElem?_eq_getElem hlt, q])).2
      · rw [if_neg hl, List.getElem?_eq_none (by rw [wipe_length]; omega)]
    rw [key, key]
    simp
  · rw [wipe_out hj, wipe_out hj, List.getElem?_set_ne (fun e : i = j => hj (e ▸ hi))]
theorem wipe_sets : ∀ {is : List Nat} {vs : List V} {σ : L2.St} {own : List Nat}, (∀ i ∈ is, i ∈ own) → wipe (setsV σ is vs) own = wipe σ own
  | [], vs, σ, own, _ => by cases vs <;> rfl
  | i :: r, [], σ, own, _ => rfl
  | i :: r, v :: vs, σ, own, h => by
    show wipe (setsV (σ.set i (some v)) r vs) own = _
    rw [wipe_sets (fun j hj => h j (List.mem_cons_of_mem _ hj)), wipe_set (h i List.mem_cons_self)]
theorem wipe_wipe {σ : L2.St} {own : List Nat} : wipe (wipe σ own) own = wipe σ own := by
  have key : ∀ vs : List Nat, (∀ i ∈ vs, i ∈ own) → wipe (wipe σ vs) own = wipe σ own := fun vs => by
    induction vs with
    | nil => intro _; rfl
    | cons v vs ih =>
      intro hv
      show wipe ((wipe σ vs).set v none) own = _
      rw [wipe_set (hv v List.mem_cons_self), ih fun i hi => hv i (List.mem_cons_of_mem _ hi)]
  exact key own fun _ h => h
theorem wipe_rep {φ : List Addr} {G : Hp} {σ : Env} {σV : L2.St} (er : ERep L px φ G σ σV) : ∀ own : List Nat, ERep L px φ G (wipeE σ own) (wipe σV own)
  | [] => er
  | v :: vs => by
    show ERep L px φ G ((wipeE σ vs).set v none) ((wipe σV vs).set v none)
    exact (wipe_rep er vs).unset

/-! ### [e for t in s if c] -/
section
variable {fs : Env → Hb → FV.R (D × List D)} {fc : Env → Hb → FV.R Bool} {fe fk : Env → Hb → FV.R D} {tgs own : List Nat} {b : Bool}
/-- the state of a comprehension at turn i -/
def LcAt (L : Lw) (W : WX) (σV : L2.St) (Q : VK) (ψ : List (Addr × HO)) (φ1 : List Addr) (G1 : Hp) (D : Addr) (b : Bool) (go : Nat → List FV.D → Hb → FV.R (List FV.D)) (i : Nat) (H : Hp) : Prop :=
  ∃ φ G h acc accV, φ1 <+: φ ∧ RLe G1 G ∧ Rel L ((D, .lst accV) :: ψ) φ G H h ∧ Reps L φ G acc accV ∧ DR L ψ W σV φ G ((go i acc h).bind fun xs h => mkL b xs h) Q
theorem lc_red {K : PySem.W.Frag} {σV : L2.St} {H : Hp} {Q : VK} (hsub : ∀ i ∈ tgs, i ∈ own)
    (d : tE L none W (fun σ h => (fs σ h).bind fun p h => (lcGo tgs (wipeE σ own) (stays h p.1) fc fe p.2 [] h).bind fun xs h => mkL b xs h) σV H Q) :
    tLc (tS L none W fs) (gT K tgs) (tT L none WF fc) (tE L none WF fe) own σV H Q := by
  obtain ⟨ψ, φ, G, σE, h, rel, er, d⟩ := d
  refine ⟨ψ, φ, G, σE, h, rel, er, ?_⟩
  dsimp only at d
  cases e : fs σE h with
  | st => rw [e] at d; exact d
  | ex c ns vs h1 => rw [e] at d; exact d
  | ok p h1 =>
    rw [e] at d
    simp only [FV.R.bind_ok] at d
    refine fun φ1 G1 H1 J p1 l1 rel1 wk D nD => ?_
    have nd : ∀ q ∈ ψ, q.1 ≠ D := fun q hq z => by
      have := (rel1.priv q hq).1
      rw [z, nD] at this; cases this
    refine ⟨fun i m H => m = p.2.length - i ∧ i ≤ p.2.length ∧ LcAt L W σV Q ψ φ1 G1 D b (fun i => lcGo tgs (wipeE σE own) (stays h1 p.1) fc fe (p.2.drop i)) i H,
      ⟨p.2.length, by simp, Nat.zero_le _, φ1, G1, h1, [], [], List.prefix_refl _, RLe.refl, rel1.hold nD, Reps.nil, by
        have := DenR.mono d p1 l1
        simpa using this⟩, ?_⟩
    rintro i m' H ⟨rfl, hi, φ2, G2, h2, acc, accV, p2, l2, rel2, rs, d2⟩
    dsimp only at d2
    by_cases hlt : i < p.2.length
    · -- a turn
      rw [List.drop_eq_getElem_cons hlt, lcGo] at d2
      by_cases hst : stays h1 p.1 h2 = true
      · rw [if_pos hst] at d2
        obtain ⟨go, yl⟩ := (wk _ φ2 G2 H h2 i p2 l2 rel2 hst).1 hlt
        refine .inr ⟨go, fun H' => LcAt L W σV Q ψ φ1 G1 D b (fun i => lcGo tgs (wipeE σE own) (stays h1 p.1) fc fe (p.2.drop i)) (i + 1) H', fun H' z => ⟨p.2.length - (i + 1), by omega, rfl, hlt, z⟩, fun x H' y => ?_⟩
        obtain ⟨a, e1, e2, ra⟩ := yl x H' y
        subst e1
        have ea : p.2[i] = a := by
          obtain ⟨_, q⟩ := List.getElem?_eq_some_iff.mp e2
          exact q
        rw [ea] at d2
        cases eb : bindT h2 (wipeE σE own) tgs a with
        | none => rw [eb] at d2; exact d2.elim
        | some σ' =>
          rw [eb] at d2
          dsimp only at d2
          have er2 : ERep L none φ2 G2 (wipeE σE own) (wipe σV own) := wipe_rep ((er.mono p1 l1).mono p2 l2) own
          refine gT_of rel2 er2 ra eb fun vs er3 => ⟨by rw [wipe_sets hsub, wipe_wipe], (D, .lst accV) :: ψ, φ2, G2, σ', h2, rel2, er3, ?_⟩
          rw [FV.R.bind_assoc] at d2
          refine DenR.nox d2 fun k h3 φ3 G3 H3 k' p3 l3 rel3 rk d3 => ?_
          cases rk
          cases k with
          | false =>
            simp only [Bool.false_eq_true, if_false] at d3 ⊢
            exact ⟨φ3, G3, h3, acc, accV, p2.trans p3, l2.trans l3, rel3, rs.mono p3 l3, d3⟩
          | true =>
            simp only [if_true] at d3 ⊢
            rw [FV.R.bind_assoc] at d3
            refine ⟨(D, .lst accV) :: ψ, φ3, G3, σ', h3, rel3, er3.mono p3 l3, DenR.nox d3 fun y h4 φ4 G4 H4 v p4 l4 rel4 rv d4 => ?_⟩
            by_cases hz : acc.length < lineN
            · rw [if_pos hz] at d4
              have rs4 := (rs.mono p3 l3).mono p4 l4
              refine ⟨accV, (rel4.priv _ List.mem_cons_self).1, by rw [← rs4.length, ← lineN_eq]; exact hz, φ4, G4, h4, acc ++ [y], accV ++ [v], (p2.trans p3).trans p4, (l2.trans l3).trans l4, rel4.change nd, rs4.append (Reps.cons rv Reps.nil), d4⟩
            · rw [if_neg hz] at d4
              exact d4.elim
      · rw [if_neg hst] at d2
        exact d2.elim
    · -- the end
      have e0 : p.2.drop i = [] := List.drop_eq_nil_of_le (by omega)
      rw [e0, lcGo] at d2
      by_cases hst : stays h1 p.1 h2 = true
      · rw [if_pos hst] at d2
        simp only [FV.R.bind_ok] at d2
        refine .inl ⟨(wk _ φ2 G2 H h2 i p2 l2 rel2 hst).2 (by omega), ?_⟩
        have hD := (rel2.priv _ List.mem_cons_self).1
        have nG := (rel2.priv _ List.mem_cons_self).2.2
        unfold mkL at d2
        cases b with
        | false =>
          refine d2 φ2 (upd G2 D (.lst accV)) H (.ref D) (List.prefix_refl _) (RLe.upd nG) (rel2.adopt nd) ?_
          simp only [Rep]
          exact ⟨D, accV, rfl, .inl upd_same, rs.mono (List.prefix_refl _) (RLe.upd nG)⟩
        | true =>
          refine d2 (φ2 ++ [D]) G2 H (.ref D) (List.prefix_append _ _) RLe.refl (rel2.box' nd ⟨accV, hD, rs.mono (List.prefix_append _ _) RLe.refl⟩) ?_
          simp only [Rep]
          exact ⟨D, rfl, by rw [← rel2.len]; simp⟩
      · rw [if_neg hst] at d2
        exact d2.elim
end
end
end FV

set_option maxRecDepth 100000
/-! Dict comprehensions; the blocks' contexts. -/
namespace FV
open PySem PySem.Spec L2 L2H
variable {L : Lw} {S : Ck} {n : Nat}
section
variable {φ φ' : List Addr} {G G' H : Hp}
theorem put_old : ∀ {ks : List Kk} {ds : List D} {vs : List V} {k : Kk} {d : D} {v : V}, ks.length = ds.length → Reps L φ G ds vs → Rep L φ G d v →
    ∃ ws, (((ks.map kK).zip vs).map fun kv => if kv.1 = kK k then (kv.1, v) else kv) = (ks.map kK).zip ws ∧ Reps L φ G ((ks.zip ds).map fun p => if p.1 = k then d else p.2) ws ∧ ((ks.zip ds).map fun p => if p.1 = k then d else p.2).length = ks.length
  | [], ds, vs, k, d, v, _, rs, r => ⟨[], rfl, by simp [Reps], rfl⟩
  | a :: ks, [], vs, k, d, v, e, _, _ => by simp at e
  | a :: ks, b :: ds, vs, k, d, v, e, rs, r => by
    simp only [Reps] at rs
    obtain ⟨u, t, rfl, r1, r2⟩ := rs
    obtain ⟨ws, e1, e2, e3⟩ := put_old (k := k) (by simpa using e) r2 r
    by_cases h : a = k
    · subst h
      refine ⟨v :: ws, ?_, ?_, by simp at e3 ⊢; omega⟩
      · simp only [List.map_cons, List.zip_cons_cons, if_true]
        rw [e1]
      · simp only [List.zip_cons_cons, List.map_cons, if_true]
        exact Reps.cons r e2
    · have h' : ¬ kK a = kK k := fun z => h (kK_inj z)
      refine ⟨u :: ws, ?_, ?_, by simp at e3 ⊢; omega⟩
      · simp only [List.map_cons, List.zip_cons_cons, if_neg h']
        rw [e1]
      · simp only [List.zip_cons_cons, List.map_cons, if_neg h]
        exact Reps.cons r1 e2
theorem any_keys : ∀ {ks : List Kk} {vs : List V} {k : Kk}, ks.length = vs.length → (((ks.map kK).zip vs).any fun kv => decide (kv.1 = kK k)) = decide (k ∈ ks)
  | [], vs, k, _ => rfl
  | a :: ks, [], k, e => by simp at e
  | a :: ks, b :: vs, k, e => by
    simp only [List.map_cons, List.zip_cons_cons, List.any_cons]
    rw [any_keys (by simpa using e), Bool.eq_iff_iff]
    simp only [Bool.or_eq_true, decide_eq_true_eq, List.mem_cons]
    exact ⟨fun h => h.imp (fun z => (kK_inj z).symm) id, fun h => h.imp (fun z => by rw [z]) id⟩
theorem put_rep {ks : List Kk} {ds : List D} {vs : List V} {k : Kk} {d : D} {v : V} (hl : ks.length = ds.length) (nd : ks.Nodup) (rs : Reps L φ G ds vs) (r : Rep L φ G d v) :
    ∃ ws, putK ((ks.map kK).zip vs) (kK k) v = ((putD ks ds k d).1.map kK).zip ws ∧ Reps L φ G (putD ks ds k d).2 ws ∧ (putD ks ds k d).1.length = (putD ks ds k d).2.length ∧ (putD ks ds k d).1.Nodup := by
  unfold putK putD
  rw [any_keys (hl.trans rs.length)]
  by_cases h : k ∈ ks
  · rw [if_pos (by simpa using h), if_pos h]
    obtain ⟨ws, e1, e2, e3⟩ := put_old (k := k) hl rs r
    exact ⟨ws, e1, e2, e3.symm, nd⟩
  · rw [if_neg (by simpa using h), if_neg h]
    refine ⟨vs ++ [v], ?_, rs.append (Reps.cons r Reps.nil), by simp [hl], ?_⟩
    · simp only [List.map_append, List.map_cons, List.map_nil]
      rw [List.zip_append (by simpa using hl.trans rs.length)]
      rfl
    · rw [List.nodup_append]
      refine ⟨nd, by simp, fun a ha b hb e => ?_⟩
      rw [List.mem_singleton] at hb
      subst hb e
      exact h ha
theorem zip_len {ks : List Kk} {vs : List V} (h : ks.length = vs.length) : ((ks.map kK).zip vs).length = ks.length := by rw [List.length_zip, List.length_map]; omega
end
section
variable {W : WX} {fs : Env → Hb → FV.R (D × List D)} {fc : Env → Hb → FV.R Bool} {fe fk : Env → Hb → FV.R D} {tgs own : List Nat} {b : Bool}
def DcAt (L : Lw) (W : WX) (σV : L2.St) (Q : VK) (ψ : List (Addr × HO)) (φ1 : List Addr) (G1 : Hp) (D : Addr) (b : Bool) (go : Nat → List Kk → List FV.D → Hb → FV.R (List Kk × List FV.D)) (i : Nat) (H : Hp) : Prop :=
  ∃ φ G h ks ds vs, φ1 <+: φ ∧ RLe G1 G ∧ Rel L ((D, .dK ((ks.map kK).zip vs)) :: ψ) φ G H h ∧ Reps L φ G ds vs ∧ ks.length = ds.length ∧ ks.Nodup ∧ DR L ψ W σV φ G ((go i ks ds h).bind (mkD b)) Q
theorem dc_red {K : PySem.W.Frag} {σV : L2.St} {H : Hp} {Q : VK} (hsub : ∀ i ∈ tgs, i ∈ own)
    (d : tE L none W (fun σ h => (fs σ h).bind fun p h => (dcGo tgs (wipeE σ own) (stays h p.1) fc fk fe p.2 [] [] h).bind (mkD b)) σV H Q) :
    tDc (tS L none W fs) (gT K tgs) (tT L none WF fc) (tE L none WF fk) (tE L none WF fe) own σV H Q := by
  obtain ⟨ψ, φ, G, σE, h, rel, er, d⟩ := d
  refine ⟨ψ, φ, G, σE, h, rel, er, ?_⟩
  dsimp only at d
  cases e : fs σE h with
  | st => rw [e] at d; exact d
  | ex c ns vs h1 => rw [e] at d; exact d
  | ok p h1 =>
    rw [e] at d
    simp only [FV.R.bind_ok] at d
    refine fun φ1 G1 H1 J p1 l1 rel1 wk D nD => ?_
    have nd : ∀ q ∈ ψ, q.1 ≠ D := fun q hq z => by
      have := (rel1.priv q hq).1
      rw [z, nD] at this; cases this
    refine ⟨fun i m H => m = p.2.length - i ∧ i ≤ p.2.length ∧ DcAt L W σV Q ψ φ1 G1 D b (fun i => dcGo tgs (wipeE σE own) (stays h1 p.1) fc fk fe (p.2.drop i)) i H,
      ⟨p.2.length, by simp, Nat.zero_le _, φ1, G1, h1, [], [], [], List.prefix_refl _, RLe.refl, rel1.hold nD, Reps.nil, rfl, List.nodup_nil, by
        have := DenR.mono d p1 l1
        simpa using this⟩, ?_⟩
    rintro i m' H ⟨rfl, hi, φ2, G2, h2, ks, ds, dv, p2, l2, rel2, rs, hl, ndk, d2⟩
    dsimp only at d2
    by_cases hlt : i < p.2.length
    · rw [List.drop_eq_getElem_cons hlt, dcGo] at d2
      by_cases hst : stays h1 p.1 h2 = true
      · rw [if_pos hst] at d2
        obtain ⟨go, yl⟩ := (wk _ φ2 G2 H h2 i p2 l2 rel2 hst).1 hlt
        refine .inr ⟨go, fun H' => DcAt L W σV Q ψ φ1 G1 D b (fun i => dcGo tgs (wipeE σE own) (stays h1 p.1) fc fk fe (p.2.drop i)) (i + 1) H', fun H' z => ⟨p.2.length - (i + 1), by omega, rfl, hlt, z⟩, fun x H' y => ?_⟩
        obtain ⟨a, e1, e2, ra⟩ := yl x H' y
        subst e1
        have ea : p.2[i] = a := by
          obtain ⟨_, q⟩ := List.getElem?_eq_some_iff.mp e2
          exact q
        rw [ea] at d2
        cases eb : bindT h2 (wipeE σE own) tgs a with
        | none => rw [eb] at d2; exact d2.elim
        | some σ' =>
          rw [eb] at d2
          dsimp only at d2
          have er2 : ERep L none φ2 G2 (wipeE σE own) (wipe σV own) := wipe_rep ((er.mono p1 l1).mono p2 l2) own
          refine gT_of rel2 er2 ra eb fun vs er3 => ⟨by rw [wipe_sets hsub, wipe_wipe], (D, .dK ((ks.map kK).zip dv)) :: ψ, φ2, G2, σ', h2, rel2, er3, ?_⟩
          rw [FV.R.bind_assoc] at d2
          refine DenR.nox d2 fun k h3 φ3 G3 H3 k' p3 l3 rel3 rk d3 => ?_
          cases rk
          cases k with
          | false =>
            simp only [Bool.false_eq_true, if_false] at d3 ⊢
            exact ⟨φ3, G3, h3, ks, ds, dv, p2.trans p3, l2.trans l3, rel3, rs.mono p3 l3, hl, ndk, d3⟩
          | true =>
            simp only [if_true] at d3 ⊢
            rw [FV.R.bind_assoc] at d3
            refine ⟨(D, .dK ((ks.map kK).zip dv)) :: ψ, φ3, G3, σ', h3, rel3, er3.mono p3 l3, DenR.nox d3 fun kd h4 φ4 G4 H4 kv p4 l4 rel4 rkd d4 => ?_⟩
            rw [FV.R.bind_assoc] at d4
            refine ⟨(D, .dK ((ks.map kK).zip dv)) :: ψ, φ4, G4, σ', h4, rel4, (er3.mono p3 l3).mono p4 l4, DenR.nox d4 fun y h5 φ5 G5 H5 v p5 l5 rel5 rv d5 => ?_⟩
            cases ek : keyD kd with
            | none => rw [ek] at d5; exact d5.elim
            | some kk =>
              rw [ek] at d5
              dsimp only at d5
              by_cases hz : ks.length < lineN
              · rw [if_pos hz] at d5
                have rs5 := ((rs.mono p3 l3).mono p4 l4).mono p5 l5
                obtain ⟨ws, q1, q2, q3, q4⟩ := put_rep (k := kk) hl ndk rs5 rv
                refine ⟨_, kK kk, keyD_rep ek rkd, (rel5.priv _ List.mem_cons_self).1, by rw [zip_len (hl.trans rs5.length), ← lineN_eq]; exact hz, φ5, G5, h5, _, _, ws, ((p2.trans p3).trans p4).trans p5, ((l2.trans l3).trans l4).trans l5, ?_, q2, q3, q4, d5⟩
                rw [q1]
                exact rel5.change nd
              · rw [if_neg hz] at d5
                exact d5.elim
      · rw [if_neg hst] at d2
        exact d2.elim
    · have e0 : p.2.drop i = [] := List.drop_eq_nil_of_le (by omega)
      rw [e0, dcGo] at d2
      by_cases hst : stays h1 p.1 h2 = true
      · rw [if_pos hst] at d2
        simp only [FV.R.bind_ok] at d2
        refine .inl ⟨(wk _ φ2 G2 H h2 i p2 l2 rel2 hst).2 (by omega), ?_⟩
        have hD := (rel2.priv _ List.mem_cons_self).1
        have nG := (rel2.priv _ List.mem_cons_self).2.2
        unfold mkD at d2
        cases b with
        | false =>
          refine d2 φ2 (upd G2 D (.dK ((ks.map kK).zip dv))) H (.ref D) (List.prefix_refl _) (RLe.upd nG) (rel2.adopt nd) ?_
          simp only [Rep]
          exact ⟨D, dv, rfl, hl, ndk, .inl upd_same, rs.mono (List.prefix_refl _) (RLe.upd nG)⟩
        | true =>
          refine d2 (φ2 ++ [D]) G2 H (.ref D) (List.prefix_append _ _) RLe.refl (rel2.box' nd ⟨dv, hl, ndk, hD, rs.mono (List.prefix_append _ _) RLe.refl⟩) ?_
          simp only [Rep]
          exact ⟨D, rfl, by rw [← rel2.len]; simp⟩
      · rw [if_neg hst] at d2
        exact d2.elim
end
end FV

set_option maxRecDepth 100000
/-! The blocks of comprehensions. -/
namespace FV
open PySem PySem.Spec L2 L2H
variable {L : Lw} {S : Ck} {n : Nat}
theorem relab_fwd {sc : Scope} : ∀ {names : List (Str × NameKind)} {x : Str} {k : NameKind}, names.lookup x = some k →
    ∃ k', (names.map fun (n, k) => if (k == NameKind.free && sc.kind == .function && sc.names.lookup n == some .cell) then (n, NameKind.cell) else (n, k)).lookup x = some k' ∧ (k' = k ∨ (k = .free ∧ k' = .cell))
  | [], _, _, h => by simp at h
  | (n, k₀) :: r, x, k, h => by
    have ih := @relab_fwd sc r x k
    show ∃ k', List.lookup x ((if (k₀ == NameKind.free && sc.kind == .function && sc.names.lookup n == some .cell) = true then (n, NameKind.cell) else (n, k₀)) :: (r.map _)) = some k' ∧ _
    cases hx : x == n with
    | true =>
      simp only [List.lookup_cons, hx] at h
      cases h
      by_cases hc : (k₀ == NameKind.free && sc.kind == .function && sc.names.lookup n == some .cell) = true
      · rw [if_pos hc]
        simp only [Bool.and_eq_true, beq_iff_eq] at hc
        exact ⟨.cell, by simp only [List.lookup_cons, hx], .inr ⟨hc.1.1, rfl⟩⟩
      · rw [if_neg hc]
        exact ⟨k₀, by simp only [List.lookup_cons, hx], .inl rfl⟩
    | false =>
      simp only [List.lookup_cons, hx] at h
      obtain ⟨k', e1, e2⟩ := ih h
      refine ⟨k', ?_, e2⟩
      by_cases hc : (k₀ == NameKind.free && sc.kind == .function && sc.names.lookup n == some .cell) = true
      · rw [if_pos hc]; simp only [List.lookup_cons, hx]; exact e1
      · rw [if_neg hc]; simp only [List.lookup_cons, hx]; exact e1
section
variable {X : Cx} {px : Px} {W : WX} {m : Nat} {x y tg iter elt kx vx : Expr} {ifs : List Expr} {es : List Expr} {p pos : Pos} {scope : Scope} {own : List (Str × Nat)}
theorem isVis_iff {sc : Scope} {x : Str} : isVis sc x = true ↔ sc.names.lookup x = some .local ∨ sc.names.lookup x = some .cell ∨ sc.names.lookup x = some .free := by
  unfold isVis
  cases h : sc.names.lookup x with
  | none => simp
  | some k => cases k <;> simp
theorem isLoc_iff {sc : Scope} {x : Str} : isLoc sc x = true ↔ sc.names.lookup x = some .local ∨ sc.names.lookup x = some .cell := by
  unfold isLoc
  cases h : sc.names.lookup x with
  | none => simp
  | some k => cases k <;> simp
theorem isCF_iff {sc : Scope} {x : Str} : isCF sc x = true ↔ sc.names.lookup x = some .cell ∨ sc.names.lookup x = some .free := by
  unfold isCF
  cases h : sc.names.lookup x with
  | none => simp
  | some k => cases k <;> simp
theorem Fit.blk (F : Fit L S n none X) (hk : scope.kind = .function) (s : Shared) (H : Hp) (C : Addr) (cl : List (Str × Addr)) (fp : List Addr) : Fit L { S with sc := scope } n none (X.blk s H scope (compEnvC scope cl C X.env) fp) where
  prog := F.prog
  w := F.w
  K := F.K
  mg := F.mg
  base := F.base
  N := F.N
  nd := F.nd
  vis := fun x h => by
    show _ ∨ _ ∨ _
    rcases isVis_iff.mp h with h | h | h <;> obtain ⟨k', e1, e2⟩ := relab_fwd (sc := X.env.scope) h
    · rcases e2 with rfl | ⟨e, _⟩
      · exact .inl e1
      · cases e
    · rcases e2 with rfl | ⟨e, _⟩
      · exact .inr (.inl e1)
      · cases e
    · rcases e2 with rfl | ⟨_, rfl⟩
      · exact .inr (.inr e1)
      · exact .inr (.inl e1)
  loc := fun x h => by
    rcases isLoc_iff.mp h with h | h
    · have := lookup_relS_keep (sc := X.env.scope) (by simp) h
      exact ⟨.inl this, .inr this⟩
    · have := lookup_relS_keep (sc := X.env.scope) (by simp) h
      exact ⟨.inr this, .inl (by show (scope.names.lookup x == some .cell) = true; rw [h]; rfl)⟩
  gl := fun x h => by
    simp only [isGl, beq_iff_eq] at h
    exact lookup_relS_keep (sc := X.env.scope) (by simp) h
  cf := fun x h => by
    rcases isCF_iff.mp h with h | h <;> obtain ⟨k', e1, e2⟩ := relab_fwd (sc := X.env.scope) h
    · rcases e2 with rfl | ⟨e, _⟩
      · exact .inl e1
      · cases e
    · rcases e2 with rfl | ⟨_, rfl⟩
      · exact .inr e1
      · exact .inl e1
  oloc := fun x h => lookup_relS_keep (sc := X.env.scope) (by simp) h
  ocel := fun x h => lookup_relS_keep (sc := X.env.scope) (by simp) h
  kind := hk
  pass := PassesOwn.never
  room := F.room
theorem Fit.blkOk (F : Fit L S n px X) (h : blkC S.N S.sc scope own = true) : BlkOk X.N X.env.scope scope own := by
  have b := blkOk_by h
  rw [F.N]
  exact ⟨b.kind, b.uniq, b.ix, fun y hy e => F.cf _ (isCF_iff.mpr (b.free y hy e)), b.own⟩
variable {fs : Env → Hb → FV.R (D × List D)} {fc : Env → Hb → FV.R Bool} {fe fk : Env → Hb → FV.R D} {tgs : List Nat} {b : Bool}
theorem pe_lcE (F : Fit L S n none X) (hb : blkC S.N S.sc scope own = true) (hi : PI X tg iter (tS L none W fs)) (hT : chkT { S with sc := scope } tgs tg = true) (hsub : ∀ i ∈ tgs, i ∈ own.map (·.2))
    (hc : ∀ X', Fit L { S with sc := scope } n none X' → L2N.Takes X' WF → PTs X' ifs (tT L none WF fc)) (he : ∀ X', Fit L { S with sc := scope } n none X' → L2N.Takes X' WF → PE X' elt (tE L none WF fe)) (hs : noSet iter = true) :
    PE X (.ListComp elt [⟨tg, iter, ifs, 0⟩] scope pos) (tE L none W fun σ h => (fs σ h).bind fun p h => (lcGo tgs (wipeE σ (own.map (·.2))) (stays h p.1) fc fe p.2 [] h).bind fun xs h' => mkL b xs h') :=
  (pe_lc (own := own) F.calm (by rw [F.N]; exact F.nd) hi (F.blkOk hb) (fun s H C cl fp => pg_T (F.blk (F.blkOk hb).kind s H C cl fp) (.inl F.calm) hT) (fun s H C cl fp => hc _ (F.blk (F.blkOk hb).kind s H C cl fp) takes_F)
    (fun s H C cl fp => he _ (F.blk (F.blkOk hb).kind s H C cl fp) takes_F) (folded_of hs)).imp fun σ H Q d => lc_red hsub d
theorem pe_dcE (F : Fit L S n none X) (hb : blkC S.N S.sc scope own = true) (hi : PI X tg iter (tS L none W fs)) (hT : chkT { S with sc := scope } tgs tg = true) (hsub : ∀ i ∈ tgs, i ∈ own.map (·.2))
    (hc : ∀ X', Fit L { S with sc := scope } n none X' → L2N.Takes X' WF → PTs X' ifs (tT L none WF fc)) (hk : ∀ X', Fit L { S with sc := scope } n none X' → L2N.Takes X' WF → PE X' kx (tE L none WF fk)) (he : ∀ X', Fit L { S with sc := scope } n none X' → L2N.Takes X' WF → PE X' vx (tE L none WF fe)) (hs : noSet iter = true) :
    PE X (.DictComp kx vx [⟨tg, iter, ifs, 0⟩] scope pos) (tE L none W fun σ h => (fs σ h).bind fun p h => (dcGo tgs (wipeE σ (own.map (·.2))) (stays h p.1) fc fk fe p.2 [] [] h).bind (mkD b)) :=
  (pe_dc (own := own) F.calm (by rw [F.N]; exact F.nd) hi (F.blkOk hb) (fun s H C cl fp => pg_T (F.blk (F.blkOk hb).kind s H C cl fp) (.inl F.calm) hT) (fun s H C cl fp => hc _ (F.blk (F.blkOk hb).kind s H C cl fp) takes_F)
    (fun s H C cl fp => hk _ (F.blk (F.blkOk hb).kind s H C cl fp) takes_F) (fun s H C cl fp => he _ (F.blk (F.blkOk hb).kind s H C cl fp) takes_F) (folded_of hs)).imp fun σ H Q d => dc_red hsub d

/-! ### name = [..], name = {..} on one line -/
/-- the value of such a statement lands in a slot -/
theorem ps_setLcE {i : Nat} {y : Str} {py spos : Pos} (F : Fit L S n none X) (hy : S.N[i]? = some y) (hyl : S.sc.names.lookup y = some .local) (hl : (py.line == pos.line) = true) (ha : (scope.names.any fun (n, k) => n == y && (k == .local || k == .cell)) = false)
    (hb : blkC S.N S.sc scope own = true) (hi : PI X tg iter (tS L none W fs)) (hT : chkT { S with sc := scope } tgs tg = true) (hsub : ∀ i ∈ tgs, i ∈ own.map (·.2))
    (hc : ∀ X', Fit L { S with sc := scope } n none X' → L2N.Takes X' WF → PTs X' ifs (tT L none WF fc)) (he : ∀ X', Fit L { S with sc := scope } n none X' → L2N.Takes X' WF → PE X' elt (tE L none WF fe)) (hs : noSet iter = true) :
    PS X (.Assign [.Name y py] (.ListComp elt [⟨tg, iter, ifs, 0⟩] scope pos) spos) (tAsg (tE L none W fun σ h => (fs σ h).bind fun p h => (lcGo tgs (wipeE σ (own.map (·.2))) (stays h p.1) fc fe p.2 [] h).bind fun xs h' => mkL b xs h') (gName i)) := by
  have q := ps_setLc (X := X) (g := gT X.K tgs) (tt := tT L none WF fc) (te := tE L none WF fe) (i := i) (y := y) (py := py) (spos := spos) (own := own) (pos := pos) F.calm (by rw [F.N]; exact F.nd) (by rw [F.N]; exact hy) (F.oloc _ hyl) (sw_true F.kind (F.oloc _ hyl) hl ha) hi (F.blkOk hb) (fun s H C cl fp => pg_T (F.blk (F.blkOk hb).kind s H C cl fp) (.inl F.calm) hT) (fun s H C cl fp => hc _ (F.blk (F.blkOk hb).kind s H C cl fp) takes_F)
    (fun s H C cl fp => he _ (F.blk (F.blkOk hb).kind s H C cl fp) takes_F) (folded_of hs)
  refine ⟨fun pins s σ H D I h => q.run pins s σ H D I ?_⟩
  exact lc_red hsub h
/-- the same for {k: v for ..} -/
theorem sw_trueD {kx vx : Expr} {gs : List Comprehension} {scope : Scope} {pos py : Pos} {y : Str} {l : Nat} {env : PySem.Env} (hk : env.scope.kind = .function) (hy : env.scope.names.lookup y = some .local) (hl : (py.line == pos.line) = true)
    (ha : (scope.names.any fun (n, k) => n == y && (k == .local || k == .cell)) = false) : swapsWith (.DictComp kx vx gs scope pos) (some (.Name y py)) l env = pure true := by
  have kd : env.kindOf y = some .local := hy
  have bk : env.blockKind = .function := by rw [Env.blockKind, hk]; rfl
  simp only [swapsWith, bk, kd, ha, Expr.pos, hl]; rfl
abbrev InBlk (X : Cx) (sc : Scope) (P : Cx → Prop) : Prop := ∀ (s : Shared) (H : Hp) (C : Addr) (cl : List (Str × Addr)) (fp : List Addr), P (X.blk s H sc (compEnvC sc cl C X.env) fp)
theorem ps_setDc {i : Nat} {y : Str} {py spos : Pos} {wi : TI} {g : TG} {tt : TT} {tk tv : TE} (cm : X.calm = true) (nd : X.N.Nodup) (hy : X.N[i]? = some y) (hyl : X.env.scope.names.lookup y = some .local)
    (hsw : swapsWith (.DictComp kx vx [⟨tg, iter, ifs, 0⟩] scope pos) (some (.Name y py)) spos.line X.env = pure true) (hi : PI X tg iter wi) (ok : BlkOk X.N X.env.scope scope own)
    (hg : InBlk X scope fun X => PG X tg g) (ht : InBlk X scope fun X => PTs X ifs tt) (hk : InBlk X scope fun X => PE X kx tk) (he : InBlk X scope fun X => PE X vx tv) (hs : ∀ x, foldedSetIterable iter X.env x = pure x) :
    PS X (.Assign [.Name y py] (.DictComp kx vx [⟨tg, iter, ifs, 0⟩] scope pos) spos) (tAsg (tDc wi g tt tk tv (own.map (·.2))) (gName i)) := by
  refine ⟨fun pins s σ H D I h => ?_⟩
  rw [exec_Assign_Name_used (hs := hsw)]; refine wpAny_bind (wpAny_standAt (wpAny_bind ?_))
  show wpAny _ X.A (do let _ ← comprehension (.DictComp kx vx [⟨tg, iter, ifs, 0⟩] scope pos) scope X.env (firstIterPos [⟨tg, iter, ifs, 0⟩] pos) newDict false (eval iter X.env) (some (assign (.Name y py) X.env))) _ _ s
  have h : tDc wi g tt tk tv (own.map (·.2)) σ H (fun x H1 => gName i x σ H1 D.nx) := h
  refine wpAny_bind (thn (dc_core (Qf := fun _ s' => SP X pins D .next s') cm nd I hi ok hg ht hk he hs h fun L0 C s' m0 H' I' q hn f => ?_) fun _ s' hq => wpAny_pure (wpAny_pure hq))
  show wpAny _ _ (assign (.Name y py) X.env (.ref L0)) _ _ _
  refine wpAny_assign_Name (store_ok2 (v := V.ref L0) I' nd hy (.inl hyl) rfl (fun s2 I2 ⟨a, sb, ha⟩ => ?_) (.inr hyl))
  have haC : C ≠ a := ha.elim (fun z e => f.2.1 (e.trans z)) fun z e => f.2.2.2.2.1 y a z e.symm
  refine ⟨m0, hn.sameBut sb haC, fun h3 sb3 => ⟨_, H', I2.turned (t' := s2.toks) (fun b o hb e => (sb3.2 b hb).trans e) f.1 f.2.1 f.2.2.2.1 f.2.2.2.2.1 f.2.2.2.2.2, q⟩⟩
theorem ps_setDcE {i : Nat} {y : Str} {py spos : Pos} (F : Fit L S n none X) (hy : S.N[i]? = some y) (hyl : S.sc.names.lookup y = some .local) (hl : (py.line == pos.line) = true) (ha : (scope.names.any fun (n, k) => n == y && (k == .local || k == .cell)) = false)
    (hb : blkC S.N S.sc scope own = true) (hi : PI X tg iter (tS L none W fs)) (hT : chkT { S with sc := scope } tgs tg = true) (hsub : ∀ i ∈ tgs, i ∈ own.map (·.2))
    (hc : ∀ X', Fit L { S with sc := scope } n none X' → L2N.Takes X' WF → PTs X' ifs (tT L none WF fc)) (hk : ∀ X', Fit L { S with sc := scope } n none X' → L2N.Takes X' WF → PE X' kx (tE L none WF fk)) (he : ∀ X', Fit L { S with sc := scope } n none X' → L2N.Takes X' WF → PE X' vx (tE L none WF fe)) (hs : noSet iter = true) :
    PS X (.Assign [.Name y py] (.DictComp kx vx [⟨tg, iter, ifs, 0⟩] scope pos) spos) (tAsg (tE L none W fun σ h => (fs σ h).bind fun p h => (dcGo tgs (wipeE σ (own.map (·.2))) (stays h p.1) fc fk fe p.2 [] [] h).bind (mkD b)) (gName i)) := by
  have q := ps_setDc (X := X) (g := gT X.K tgs) (tt := tT L none WF fc) (tk := tE L none WF fk) (tv := tE L none WF fe) (i := i) (y := y) (py := py) (spos := spos) (own := own) (pos := pos) F.calm (by rw [F.N]; exact F.nd) (by rw [F.N]; exact hy) (F.oloc _ hyl) (sw_trueD F.kind (F.oloc _ hyl) hl ha) hi (F.blkOk hb) (fun s H C cl fp => pg_T (F.blk (F.blkOk hb).kind s H C cl fp) (.inl F.calm) hT) (fun s H C cl fp => hc _ (F.blk (F.blkOk hb).kind s H C cl fp) takes_F)
    (fun s H C cl fp => hk _ (F.blk (F.blkOk hb).kind s H C cl fp) takes_F) (fun s H C cl fp => he _ (F.blk (F.blkOk hb).kind s H C cl fp) takes_F) (folded_of hs)
  refine ⟨fun pins s σ H D I h => q.run pins s σ H D I ?_⟩
  exact dc_red hsub h
end
end FV

set_option maxRecDepth 100000
/-! The exception that is handled; empty dicts; the module's names. -/
namespace FV
open PySem PySem.Spec L2 L2H
variable {L : Lw} {S : Ck} {n : Nat}
/-- the classes of exceptions -/
structure XcOk (L : Lw) : Prop where
  ex : ∀ c, ExcC L.K (L.ecl c)
  sub : ∀ x c, PySem.W.kitOne L.K (.ref (L.ecl x)) (.ref (L.ecl c)) = some (L.T.sub x c)
  exm : ∀ x c, PySem.W.exmOne L.K (.ref (L.ecl x)) (.ref (L.ecl c)) = some (L.T.sub x c)
  sve : ∀ x, PySem.W.kitOne L.K (.ref (L.ecl x)) (.type "ValueError") = some (L.T.sve x)
  fld : ∀ c f, PySem.W.findIn L.K (.ref (L.ecl c)) (L.fld f) = some none
section
variable {X : Cx} {px : Px} {W : WX} {m : Nat} {x y e : Expr} {es : List Expr} {p pos fp tp cp ap : Pos} {nm : Str}
theorem rd_dict {pins : List (Addr × Obj)} {σ : L2.St} {H : Hp} {s : Shared} (I : L2.Inv X pins σ H s) {a : Addr} {fs : List (Str × V)} (r : Rd H a (.xd fs)) :
    ∃ od, s.heap.get? a = some od ∧ ∀ n v, fs.lookup n = some v → ∃ u, PySem.W.lookIn n od = some (some u) ∧ RelV v u := by
  have ok : ObjOk X.prog X.w H s.heap a (.xd fs) := by
    rcases r with r | ⟨o, r⟩
    · exact I.hok a _ r
    · exact (I.hok a _ r).2
  obtain ⟨mA, hns, hr⟩ := ok
  obtain ⟨od, ho, hl⟩ := lookIn_ns hns
  refine ⟨od, ho, fun n v e => ?_⟩
  obtain ⟨u, hu, ru⟩ := RelO.some_of (v := v) (o := mA n) (by rw [← e]; exact hr n)
  exact ⟨u, by rw [hl, hu], ru⟩
theorem exc_at {pins : List (Addr × Obj)} {σ : L2.St} {H : Hp} {s : Shared} {q : Addr × Obj} {C : Addr} (I : L2.Inv X pins σ H s) (hp : q ∈ X.pn) (hc : q.2.cls = .ref C) (hf : ∃ vs, q.2.data = .fields vs) (hd : ∀ dd, q.2.dict = some dd → ∃ fs, Rd H dd (.xd fs)) :
    ∃ od, PySem.W.InstAt s.heap q.1 q.2 C od ∧ ∀ dd, q.2.dict = some dd → ∃ o, od = some o ∧ s.heap.get? dd = some o := by
  have g := (I.pin q (List.mem_append_left _ hp)).1
  obtain ⟨vs, hv⟩ := hf
  have nc : PySem.W.notCls q.2 = true := by unfold PySem.W.notCls; rw [hv]
  cases e : q.2.dict with
  | none => exact ⟨none, ⟨g, hc, nc, by rw [e]; trivial⟩, fun dd z => by cases z⟩
  | some dd =>
    obtain ⟨fs, r⟩ := hd dd e
    obtain ⟨od, ho, _⟩ := rd_dict I r
    exact ⟨some od, ⟨g, hc, nc, by rw [e]; exact ho⟩, fun d2 z => by cases z; exact ⟨od, rfl, ho⟩⟩
theorem xrep_rd {ψ : List (Addr × HO)} {φ : List Addr} {G H : Hp} {h : Hb} {ns : List Nat} {vs : List D} {d : Option Addr} (rel : Rel L ψ φ G H h) (r : XRep L φ G ns vs d) : ∀ dd, d = some dd → ∃ fs, Rd H dd (.xd fs) := fun dd e => by
  subst e
  obtain ⟨fs, q, _⟩ := r
  exact ⟨fs, rel.rd q⟩
/-- isinstance(e, C) of the handled exception -/
def rIsX (K : PySem.W.Frag) (q : Addr × Obj) : List V → Hp → VK → Prop := fun xs H Q => ∃ (C : Addr) (c : V) (cv : Value) (b : Bool), xs = [.ref q.1, c] ∧ q.2.cls = .ref C ∧ ExcC K C ∧ (∀ dd, q.2.dict = some dd → ∃ fs, Rd H dd (.xd fs)) ∧ (∀ u, RelV c u → u = cv) ∧ PySem.W.kitOne K (.ref C) cv = some b ∧ Q (.bl b) H
theorem call_isX {q : Addr × Obj} (hp : q ∈ X.pn) (hf : ∃ vs, q.2.data = .fields vs) : CallR X (.builtin "isinstance") (rIsX X.K q) := by
  intro pins s σ H xs us Q I r h
  obtain ⟨C, c, cv, b, rfl, hc, E, hd, hcv, e, k⟩ := h
  obtain ⟨u1, u2, rfl, r1, r2⟩ := vals2 r
  cases (show u1 = Value.ref q.1 from r1)
  cases hcv _ r2
  obtain ⟨od, J, _⟩ := exc_at I hp hc hf hd
  have cl : (PySem.W.clsIn X.K C).isSome = true := by
    have z := E.hd
    unfold PySem.W.hasDictIn at z
    cases q : PySem.W.clsIn X.K C with
    | none => rw [q] at z; cases z
    | some cd => rfl
  exact PySem.W.kia_one (PySem.W.kitx_exc cl E.hg E.hk E.hs E.ha E.hn E.ht E.hm) I.kIn J e (fun z => nomatch z) fun tk => ⟨.bl b, H, I.kept (t' := tk) fun _ _ z => z, rfl, k⟩
theorem getX_some {σ : Env} {i c : Nat} {ns : List Nat} {vs : List D} (e : getX σ i = some (c, ns, vs)) : σ[i]? = some (some (.x c ns vs)) := by
  unfold getX at e
  split at e
  · rename_i q; cases e; exact q
  · cases e
theorem pe_cls {k : V} {u : Value} {cx : Str} (hg : Gl X cx) (hm : X.mg cx = some u) (r : RelV k u) (hd : cx ≠ ("__debug__" : Str)) : PE X (.Name cx tp) (tC k) := pe_glob hg hm r (beq_eq_false_iff_ne.mpr hd)
theorem pe_isXc {i : Nat} {nx cx : Str} {k : V} {cv : Value} {g : Nat → Bool} (F : Fit L S n px X) (M : MgOk L.mg) (Z : XcOk L) (hg : isGl S.sc "isinstance" = true) (hi : S.N[i]? = some nx) (hv : isVis S.sc nx = true) (h1 : (nx == ("__debug__" : Str)) = false) (h2 : (nx == ("__classdict__" : Str)) = false)
    (hT : PE X (.Name cx tp) (tC k)) (hk : ∀ u, RelV k u → u = cv) (hb : ∀ c, PySem.W.kitOne L.K (.ref (L.ecl c)) cv = some (g c)) :
    PE X (.Call (.Name "isinstance" fp) [.Name nx p, .Name cx tp] [] cp) (tE L px W fun σ h => match getX σ i with
      | some (x, _, _) => .ok (.bl (g x)) h
      | none => .st) := by
  have hgl : Gl X "isinstance" := F.gl _ hg
  have hm : X.mg "isinstance" = none := by rw [F.mg]; exact M.free _ (by simp)
  have pa : PA X [.Name nx p, .Name cx tp] (tCons (tVar i) (tCons (tC k) tNil)) := pa_cons (pe_var (i := i) (by rw [F.N]; exact hi) (F.vis nx hv) h1 h2) (pa_cons hT pa_nil (starEach_ns rfl)) (starEach_ns rfl)
  cases px with
  | none =>
    have no : ∀ σ H Q, ¬ tE L none W (fun σ h => match getX σ i with
      | some (x, _, _) => .ok (.bl (g x)) h
      | none => .st) σ H Q := fun σ H Q d => by
      obtain ⟨ψ, φ, G, σE, h, rel, er, d⟩ := d
      dsimp only at d
      split at d
      · rename_i x ns vs e
        obtain ⟨v, _, q, e2, _⟩ := er.2 i _ (getX_some e)
        cases e2
      · exact d.elim
    exact ⟨fun pins s σ H Q I q => (no σ H Q q).elim⟩
  | some q =>
    obtain ⟨hot, hp, hr⟩ := F.room
    obtain ⟨vs0, hd0, _⟩ := hot.2
    refine (pe_callB (call_isX hp ⟨vs0, hd0⟩) hgl hm (by decide +kernel) pa (by decide) (by decide) (starEach_ns rfl) rfl).imp fun σ H Q d => ?_
    obtain ⟨ψ, φ, G, σE, h, rel, er, d⟩ := d
    dsimp only at d
    split at d
    · rename_i x ns vs e
      obtain ⟨v, e1, q', e2, ev, ec, xr⟩ := er.2 i _ (getX_some e)
      cases e2
      subst ev
      refine ⟨_, e1, ?_⟩
      exact ⟨L.ecl x, k, cv, g x, rfl, ec, by rw [F.K]; exact Z.ex x, xrep_rd rel xr, hk, by rw [F.K]; exact hb x, d.val rel (by simp [Rep])⟩
    · exact d.elim
theorem pe_isE {i c : Nat} {nx cx : Str} (F : Fit L S n px X) (M : MgOk L.mg) (Z : XcOk L) (N : NmOk L S) (hg : isGl S.sc "isinstance" = true) (hi : S.N[i]? = some nx) (hv : isVis S.sc nx = true) (h1 : (nx == ("__debug__" : Str)) = false) (h2 : (nx == ("__classdict__" : Str)) = false)
    (hc : S.xn c = some cx) (hcg : isGl S.sc cx = true) :
    PE X (.Call (.Name "isinstance" fp) [.Name nx p, .Name cx tp] [] cp) (tE L px W fun σ h => match getX σ i with
      | some (x, _, _) => .ok (.bl (L.T.sub x c)) h
      | none => .st) := by
  obtain ⟨hm, hd⟩ := N.xn c cx hc
  exact pe_isXc (g := fun x => L.T.sub x c) F M Z hg hi hv h1 h2 (pe_cls (k := .ref (L.ecl c)) (F.gl _ hcg) (by rw [F.mg]; exact hm) rfl hd) (fun u r => r) fun x => Z.sub x c
theorem pe_isV {i : Nat} {nx : Str} (F : Fit L S n px X) (M : MgOk L.mg) (Z : XcOk L) (hg : isGl S.sc "isinstance" = true) (hi : S.N[i]? = some nx) (hv : isVis S.sc nx = true) (h1 : (nx == ("__debug__" : Str)) = false) (h2 : (nx == ("__classdict__" : Str)) = false)
    (hcg : isGl S.sc "ValueError" = true) :
    PE X (.Call (.Name "isinstance" fp) [.Name nx p, .Name "ValueError" tp] [] cp) (tE L px W fun σ h => match getX σ i with
      | some (x, _, _) => .ok (.bl (L.T.sve x)) h
      | none => .st) := by
  have hT : PE X (.Name "ValueError" tp) (tC (.ty "ValueError")) := pe_bltn (F.gl _ hcg) (by rw [F.mg]; exact M.free _ (by simp)) (u := .type "ValueError") (by decide +kernel) rfl (by decide) (by decide)
  exact pe_isXc (g := fun x => L.T.sve x) F M Z hg hi hv h1 h2 hT (fun u r => r) fun x => Z.sve x
/-- e.f of the handled exception -/
theorem pe_atE {i f : Nat} {nx : Str} (F : Fit L S n px X) (Z : XcOk L) (hi : S.N[i]? = some nx) (hv : isVis S.sc nx = true) (h1 : (nx == ("__debug__" : Str)) = false) (h2 : (nx == ("__classdict__" : Str)) = false) :
    PE X (.Attribute (.Name nx p) (L.fld f) ap) (tE L px W fun σ h => match getX σ i with
      | some (_, ns, vs) => optV ((ns.zip vs).lookup f) h
      | none => .st) := by
  refine ⟨fun pins s σ H Q I d => ?_⟩
  obtain ⟨ψ, φ, G, σE, h, rel, er, d⟩ := d
  dsimp only at d
  split at d
  · rename_i c ns vs e
    obtain ⟨v, e1, q, e2, ev, ec, xr⟩ := er.2 i _ (getX_some e)
    subst e2 ev
    obtain ⟨hot, hp, hr⟩ := F.room
    obtain ⟨vs0, hd0, _⟩ := hot.2
    refine attr_of (base_ok rfl) (thn ((pe_var (i := i) (by rw [F.N]; exact hi) (F.vis nx hv) h1 h2).run pins s σ H (fun x H1 => x = .ref q.1 ∧ H1 = H) I ⟨_, e1, rfl, rfl⟩) fun u s1 hh => ?_)
    obtain ⟨x, H1, I1, rx, ex, eH⟩ := hh
    subst ex eH
    cases (show u = Value.ref q.1 from rx)
    cases el : (ns.zip vs).lookup f with
    | none => rw [el] at d; exact d.elim
    | some a =>
      rw [el] at d
      have E := Z.ex c
      rw [← F.K] at E
      obtain ⟨od, J, hJ⟩ := exc_at I1 hp ec ⟨vs0, hd0⟩ (xrep_rd rel xr)
      cases ed : q.2.dict with
      | none =>
        rw [ed] at xr
        obtain ⟨rfl, rfl⟩ := xr
        simp at el
      | some dd =>
        obtain ⟨o, eo, ho⟩ := hJ dd ed
        subst eo
        rw [ed] at xr
        obtain ⟨fs, rd, hl⟩ := xr
        obtain ⟨v, e3, e4⟩ := hl f a el
        obtain ⟨o2, ho2, hl2⟩ := rd_dict I1 (rel.rd rd)
        rw [ho] at ho2
        cases ho2
        obtain ⟨u, hu, ru⟩ := hl2 _ _ e3
        exact HandSPX.exc_get I1.kIn J E.hg E.hk E.hs (PySem.W.findObj_own E.hd (by rw [F.K]; exact Z.fld c f) rfl hu) (handed_of ru) ⟨v, _, I1.tok _, ru, d.val rel e4⟩
  · exact d.elim
/-- {} -/
theorem pe_dct0 {b : Bool} : PE X (.Dict [] [] pos) (tE L px W fun _ h => mkD b ([], []) h) := pe_dnewK.imp fun σ H Q d => by
  obtain ⟨ψ, φ, G, σE, h, rel, er, d⟩ := d
  intro p hp
  unfold mkD at d
  cases b with
  | false =>
    refine d φ (upd G p (.dK [])) _ (.ref p) (List.prefix_refl _) (RLe.upd (rel.fresh hp)) (rel.laid hp) ?_
    simp only [Rep]
    exact ⟨p, [], rfl, rfl, List.nodup_nil, .inl upd_same, Reps.nil⟩
  | true =>
    refine d (φ ++ [p]) G _ (.ref p) (List.prefix_append _ _) RLe.refl (rel.boxed hp ⟨[], rfl, List.nodup_nil, upd_same, Reps.nil⟩) ?_
    simp only [Rep]
    exact ⟨p, rfl, by rw [← rel.len]; simp⟩
/-- set() -/
theorem pe_set0 {b : Bool} (F : Fit L S n px X) (M : MgOk L.mg) (hg : isGl S.sc "set" = true) : PE X (.Call (.Name "set" fp) [] [] cp) (tE L px W fun _ h => if b then .ok (.box h.length) (h ++ [some (.set [])]) else .ok (.set []) h) := by
  refine (pe_callTy0 (X := X) (T := "set") cr_set0K (F.gl _ hg) (by rw [F.mg]; exact M.free _ (by simp)) (by decide +kernel) (by decide) (by decide)).imp fun σ H Q d => ?_
  obtain ⟨ψ, φ, G, σE, h, rel, er, d⟩ := d
  refine ⟨rfl, fun p hp => ?_⟩
  have es : (fun _ => false : Key → Bool) = memK [] := by funext k; rfl
  rw [F.prog, F.w, es]
  cases b with
  | false =>
    refine d φ (upd G p (SetK L.P L.w p (memK []) 0)) _ (.ref p) (List.prefix_refl _) (RLe.upd (rel.fresh hp)) (rel.laid hp) ?_
    simp only [Rep]
    exact ⟨p, rfl, List.nodup_nil, .inl upd_same⟩
  | true =>
    refine d (φ ++ [p]) G _ (.ref p) (List.prefix_append _ _) RLe.refl (rel.boxed hp ⟨List.nodup_nil, upd_same⟩) ?_
    simp only [Rep]
    exact ⟨p, rfl, by rw [← rel.len]; simp⟩
def isLK : O1 → Bool
  | .lkeys _ => true
  | _ => false
/-- list(d.keys()) -/
def tLK (c : Bool) (te : TE) : TE := fun σ H Q => te σ H fun x H1 => c = true ∧ ∃ d kvs, x = .ref d ∧ Rd H1 d (.dK kvs) ∧ ∀ q, H1 q = none → Q (.ref q) (upd H1 q (.lst (kvs.map fun kv => kV kv.1)))
theorem pe_lkeys {te : TE} (he : PE X e te) (hg : Gl X "list") (hm : X.mg "list" = none) (hb : attributeBase e "keys" X.env (eval e X.env) = eval e X.env) (hl : (ap.endLine == cp.line) = true) :
    PE X (.Call (.Name "list" fp) [.Call (.Attribute e "keys" ap) [] [] cp] [] pos) (tLK X.calm te) := by
  have st : starEach [.Call (.Attribute e "keys" ap) [] [] cp] X.env = (false, eval (.Call (.Attribute e "keys" ap) [] [] cp) X.env) :: starEach [] X.env := starEach_ns rfl
  refine ⟨fun pins s σ H Q I hq => ?_⟩
  refine wpAny_Call_Name_kw (ld_blt I hg hm (u := .type "list") (by decide +kernel) (PyProof.Rows.callWith_type1 ?_ st rfl) (by decide) (by decide))
  rw [st]
  refine Calls.spliced_cons (wpAny_Call_method (T := "dict") (id := "dict.keys") hb rfl hl PySem.F.plainAttrs_dict PySem.F.slot_dict_keys PySem.F.type_dict_keys (thn (he.run pins s σ H _ I hq) fun u s1 ⟨x, H1, I1, rx, hc, d, kvs, ex, hd, q⟩ => ?_))
  subst ex
  cases (show u = Value.ref d from rx)
  have ok : ObjOk X.prog X.w H1 s1.heap d (.dK kvs) := by
    rcases hd with hd | ⟨o, hd⟩
    · exact I1.hok d _ hd
    · exact (I1.hok d _ hd).2
  obtain ⟨hz, lo, vs, kv, hdo⟩ := ok
  obtain ⟨ep, hat⟩ := hdo.dictAt
  have ln : kvs.length = vs.length := Paired.length kv
  refine ⟨hdo.typeIs, hdo.mapOf.noDict, ?_⟩
  show wpAny _ _ (callWith cp (.builtin "dict.keys") [.ref d] [] []) _ X.xe s1
  refine method_meetsIn PySem.F.slot_dict_keys PySem.F.entry_dict_keys rfl (PySem.evalArgs_none ⟨rfl, hdo.typeIs, PySem.F.args_dict_keys_1 _, _, PySem.W.kdl_meets_keys (mixKind X.prog X.w) d lo, ⟨vs, hdo⟩, ?_⟩)
  refine Calls.spliced_nil ?_
  refine PySem.W.kdl_call (PySem.W.kdl_keys (knd := mixKind X.prog X.w) (kvs := vs) (ep := ep)) (I1.ok.hd hc) ⟨⟨_, Heap.get?_push_size _ rfl, rfl, rfl⟩, hat.push _⟩ (by rw [← ln]; exact hz) fun h' tk acc' c' kp hS hacc => ?_
  have I2 : L2.Inv X pins σ H1 { s1 with heap := s1.heap.push { cls := .type "dict_keys", data := .fields #[.ref d] } } := I1.kept (t' := s1.toks) fun b ob z => Heap.get?_push_of_some _ z
  refine ⟨.ref _, upd H1 _ (.lst (kvs.map fun kv => kV kv.1)), I2.laid kp (Nat.le_refl _) (show ObjOk X.prog X.w _ _ _ (.lst (kvs.map fun kv => kV kv.1)) from ⟨by rw [List.length_map]; exact hz, acc'.toList, c', ?_, by rw [Array.toArray_toList]; exact hS⟩), rfl, q _ (I2.hok.fresh (Nat.le_refl _))⟩
  refine vals_of_at (by rw [List.length_map, show acc'.toList.length = acc'.size by simp, hacc.1, ln]) fun j x w h1 h2 => ?_
  obtain ⟨k, y, hky, hi⟩ := hacc.2 j w (by rw [← Array.getElem?_toList]; exact h2)
  have e1 : (kvs.map (·.1))[j]? = some k := by rw [KV.keys kv, List.getElem?_map, hky]; rfl
  rw [List.getElem?_map] at h1 e1
  cases e3 : kvs[j]? with
  | none => rw [e3] at e1; cases e1
  | some z =>
    rw [e3] at e1 h1
    cases e1
    cases h1
    exact keyIs_rel hi
theorem pe_lk1 {o : O1} {fa : Env → Hb → FV.R D} (F : Fit L S n px X) (M : MgOk L.mg) (ho : isLK o = true) (hg : isGl S.sc "list" = true) (hb : okBase e = true) (hl : (ap.endLine == cp.line) = true) (ha : PE X e (tE L px W fa)) :
    PE X (.Call (.Name "list" fp) [.Call (.Attribute e "keys" ap) [] [] cp] [] pos) (tE L px W (ev1 o px.isSome fa)) := by
  cases o <;> cases ho
  rename_i b
  refine (pe_lkeys ha (F.gl _ hg) (by rw [F.mg]; exact M.free _ (by simp)) (base_ok hb) hl).imp fun σ H Q d => ?_
  obtain ⟨ψ, φ, G, σE, h, rel, er, d⟩ := d
  refine ⟨ψ, φ, G, σE, h, rel, er, d.bind fun a h1 φ1 G1 H1 v p1 l1 rel1 r1 d1 => ?_⟩
  cases px with
  | some q => exact d1.elim
  | none =>
    refine ⟨F.calm, ?_⟩
    have d2 : DR L ψ W σ φ1 G1 (sem1 (.lkeys b) a h1) Q := d1
    simp only [sem1] at d2
    split at d2
    · rename_i ks ds e
      obtain ⟨p, vs, rfl, hlen, nd, rd, rs⟩ := dicV_rep rel1 r1 e
      refine ⟨p, _, rfl, rd, fun q nq => ?_⟩
      have ek : (((ks.map kK).zip vs).map fun kv => kV kv.1) = ks.map fun k => kV (kK k) := by
        have : ∀ {ks : List Kk} {vs : List V}, ks.length = vs.length → (((ks.map kK).zip vs).map fun kv => kV kv.1) = ks.map fun k => kV (kK k) := by
          intro ks
          induction ks with
          | nil => intro vs _; rfl
          | cons k ks ih =>
            intro vs h
            cases vs with
            | nil => simp at h
            | cons v vs => simp only [List.map_cons, List.zip_cons_cons]; rw [ih (by simpa using h)]
        exact this (hlen.trans rs.length)
      rw [ek]
      exact new_lst rel1 reps_keys d2 q nq
    · exact d2.elim
/-- a constant of the module -/
theorem pe_glo {g : Nat} {x : Str} (F : Fit L S n px X) (N : NmOk L S) (hg : S.gn g = some x) (hgl : isGl S.sc x = true) : PE X (.Name x pos) (tE L px W fun _ h => optV (L.T.glo g) h) := by
  refine ⟨fun pins s σ H Q I d => ?_⟩
  obtain ⟨ψ, φ, G, σE, h, rel, er, d⟩ := d
  dsimp only at d
  cases e : L.T.glo g with
  | none => rw [e] at d; exact d.elim
  | some a =>
    rw [e] at d
    obtain ⟨hd, k⟩ := N.gn g x hg
    obtain ⟨v, u, hm, r, rp⟩ := k a e
    exact (pe_glob (F.gl _ hgl) (by rw [F.mg]; exact hm) r (beq_eq_false_iff_ne.mpr hd)).run pins s σ H Q I (d.val rel (rp φ G))
end
end FV

set_option maxRecDepth 100000
/-! The checker for expressions, and that it is right. -/
namespace FV
open PySem PySem.Spec L2 L2H
variable {L : Lw} {S : Ck} {n : Nat}

def nmOk (S : Ck) (i : Nat) (x : Str) : Bool := (S.N[i]? == some x) && isVis S.sc x && !(x == ("__debug__" : Str)) && !(x == ("__classdict__" : Str))
def slotOk (S : Ck) (i : Nat) : Expr → Bool
  | .Name x _ => nmOk S i x
  | _ => false

def view1 (S : Ck) (o : O1) : Expr → Option Expr
  | .Call (.Name f _) [x] [] _ => if (fnO1 o).map (·.1) = some f ∧ isGl S.sc f = true ∧ noStar x = true then some x else none
  | .Call (.Name f _) [x, .Name t _] [] _ => match o with
    | .isTy u => if f = ("isinstance" : Str) ∧ t = ((tyN u : String) : Str) ∧ isGl S.sc f = true ∧ isGl S.sc t = true ∧ noStar x = true then some x else none
    | _ => none
  | .Call (.Attribute x f ap) [] [] cp => if o = .pop ∧ f = ("pop" : Str) ∧ okBase x = true ∧ (ap.endLine == cp.line) = true then some x else none
  | .UnaryOp .USub x _ => if o = .neg then some x else none
  | _ => none
def viewLK (S : Ck) : Expr → Option Expr
  | .Call (.Name f _) [.Call (.Attribute x k ap) [] [] cp] [] _ => if f = ("list" : Str) ∧ k = ("keys" : Str) ∧ isGl S.sc f = true ∧ okBase x = true ∧ (ap.endLine == cp.line) = true then some x else none
  | _ => none
def viewA (S : Ck) (o : O1) (e : Expr) : Option Expr := if isLK o = true then viewLK S e else view1 S o e
def viewC (S : Ck) : Expr → Option (Expr × CmpOp × Expr)
  | .Compare x [op] [y] _ => if noSet y = true then some (x, op, y) else none
  | _ => none
def viewC3 (S : Ck) : Expr → Option (Expr × CmpOp × Expr × CmpOp × Expr)
  | .Compare x [op, op'] [y, z] _ => if noSet y = true ∧ noSet z = true then some (x, op, y, op', z) else none
  | _ => none
def strip : Expr → Expr
  | .BoolOp _ [x] _ => x
  | e => e
def viewB (op : PySem.BoolOp) : Expr → Option (Expr × Expr)
  | .BoolOp o (x :: y :: r) p => if o = op then some (x, strip (.BoolOp o (y :: r) p)) else none
  | _ => none
def viewN : Expr → Option Expr
  | .UnaryOp .Not x _ => some x
  | _ => none
def viewI : Expr → Option (Expr × Expr × Expr)
  | .IfExp t a b _ => some (t, a, b)
  | _ => none
def view3 (o : O3) : Expr → Option (Expr × Expr × Expr)
  | .Subscript x (.Slice (some y) (some z) none _) _ => some (x, y, z)
  | _ => none
def viewCall (S : Ck) (f : Nat) : Expr → Option (List Expr)
  | .Call (.Name g _) es [] _ => if S.fok f = true ∧ g = S.nm f ∧ isGl S.sc g = true ∧ es.all noStar = true then some es else none
  | _ => none
/-- a comprehension: the element, the target, what is walked, the test, the scope -/
def viewL : Expr → Option (Expr × Expr × Expr × List Expr × Scope)
  | .ListComp e [⟨t, i, c, 0⟩] sc _ => if noSet i = true then some (e, t, i, c, sc) else none
  | _ => none
def viewD : Expr → Option (Expr × Expr × Expr × Expr × List Expr × Scope)
  | .DictComp k e [⟨t, i, c, 0⟩] sc _ => if noSet i = true then some (k, e, t, i, c, sc) else none
  | _ => none
def ownOf (S : Ck) (own : List Nat) : List (Str × Nat) := own.map fun i => (S.N.getD i "", i)
def isOne : Ex → Bool
  | .bl true => true
  | _ => false
mutual
def chkE (S : Ck) : Ex → Expr → Bool
  | .var i, e => slotOk S i e
  | .non, e => match e with
    | .Constant .none _ _ => true
    | _ => false
  | .bl b, e => match e with
    | .Constant (.bool c) _ _ => b == c
    | _ => false
  | .int i, e => match e with
    | .Constant (.int j) _ _ => i == j
    | _ => false
  | .str x, e => match e with
    | .Constant (.str y) _ _ => decide (toS x = y)
    | _ => false
  | .glo g, e => match e with
    | .Name x _ => (S.gn g == some x) && isGl S.sc x
    | _ => false
  | .op1 o a, e => match viewA S o e with
    | some x => chkE S a x
    | none => false
  | .op2 o a b, e => match view2 S o e with
    | some (x, y) => chkE S a x && chkE S b y
    | none => false
  | .op3 o a b c, e => match view3 o e with
    | some (x, y, z) => chkE S a x && chkE S b y && chkE S c z
    | none => false
  | .cmp o a b, e => match viewC S e with
    | some (x, op, y) => (cmpO o == some op) && chkE S a x && chkE S b y
    | none => false
  | .cmp3 o p a b c, e => match viewC3 S e with
    | some (x, op, y, op', z) => (cmpO o == some op) && (cmpO p == some op') && chkE S a x && chkE S b y && chkE S c z
    | none => false
  | .and a b, e => match viewB .And e with
    | some (x, y) => chkE S a x && chkE S b y
    | none => false
  | .or a b, e => match viewB .Or e with
    | some (x, y) => chkE S a x && chkE S b y
    | none => false
  | .not a, e => match viewN e with
    | some x => chkE S a x
    | none => false
  | .ite t a b, e => match viewI e with
    | some (x, y, z) => chkQ S t x && chkE S a y && chkE S b z
    | none => false
  | .tup as, e => match e with
    | .Tuple es _ _ => chkXs S as es
    | _ => false
  | .lst _ as, e => match e with
    | .List es _ => chkXs S as es
    | _ => false
  | .dct0 _, e => match e with
    | .Dict [] [] _ => true
    | _ => false
  | .set0 _, e => match e with
    | .Call (.Name f _) [] [] _ => (f == ("set" : Str)) && isGl S.sc f
    | _ => false
  | .call f as, e => match viewCall S f e with
    | some es => chkAs S as es
    | none => false
  | .new _ _, _ => false
  | .fld _ _, _ => false
  | .lc _ own tg it c e0, e => match viewL e with
    | some (x, t, i, cs, sc) => blkC S.N S.sc sc (ownOf S own) && chkSrc S it i && chkT { S with sc := sc } tg t && tg.all (fun i => own.contains i) &&
        (match cs with
          | [] => isOne c
          | [c'] => chkQ { S with sc := sc } c c'
          | _ => false) && chkE { S with sc := sc } e0 x
    | none => false
  | .dc _ own tg it c k0 e0, e => match viewD e with
    | some (k, x, t, i, cs, sc) => blkC S.N S.sc sc (ownOf S own) && chkSrc S it i && chkT { S with sc := sc } tg t && tg.all (fun i => own.contains i) &&
        (match cs with
          | [] => isOne c
          | [c'] => chkQ { S with sc := sc } c c'
          | _ => false) && chkE { S with sc := sc } k0 k && chkE { S with sc := sc } e0 x
    | none => false
  | .isE i c, e => match e with
    | .Call (.Name f _) [.Name nx _, .Name cx _] [] _ => (f == ("isinstance" : Str)) && isGl S.sc f && nmOk S i nx && (S.xn c == some cx) && isGl S.sc cx
    | _ => false
  | .isV i, e => match e with
    | .Call (.Name f _) [.Name nx _, .Name cx _] [] _ => (f == ("isinstance" : Str)) && isGl S.sc f && nmOk S i nx && (cx == ("ValueError" : Str)) && isGl S.sc cx
    | _ => false
  | .atE i f, e => match e with
    | .Attribute (.Name nx _) fx _ => nmOk S i nx && (S.fd f == fx)
    | _ => false
/- an expression as a test -/
def chkQ (S : Ck) : Ex → Expr → Bool
  | .cmp o a b, e => match viewC S e with
    | some (x, op, y) => (cmpO o == some op) && chkE S a x && chkE S b y
    | none => false
  | .cmp3 o p a b c, e => match viewC3 S e with
    | some (x, op, y, op', z) => (cmpO o == some op) && (cmpO p == some op') && chkE S a x && chkE S b y && chkE S c z
    | none => false
  | .and a b, e => match viewB .And e with
    | some (x, y) => chkQ S a x && chkQ S b y
    | none => false
  | .or a b, e => match viewB .Or e with
    | some (x, y) => chkQ S a x && chkQ S b y
    | none => false
  | .not a, e => match viewN e with
    | some x => chkQ S a x
    | none => false
  | .var i, e => slotOk S i e
  | .op1 o a, e => plainT e && match viewA S o e with
    | some x => chkE S a x
    | none => false
  | .op2 o a b, e => plainT e && match view2 S o e with
    | some (x, y) => chkE S a x && chkE S b y
    | none => false
  | .call f as, e => match viewCall S f e with
    | some es => chkAs S as es
    | none => false
  | .isE i c, e => match e with
    | .Call (.Name f _) [.Name nx _, .Name cx _] [] _ => (f == ("isinstance" : Str)) && isGl S.sc f && nmOk S i nx && (S.xn c == some cx) && isGl S.sc cx
    | _ => false
  | .isV i, e => match e with
    | .Call (.Name f _) [.Name nx _, .Name cx _] [] _ => (f == ("isinstance" : Str)) && isGl S.sc f && nmOk S i nx && (cx == ("ValueError" : Str)) && isGl S.sc cx
    | _ => false
  | _, _ => false
def chkXs (S : Ck) : Xs → List Expr → Bool
  | .nil, es => match es with
    | [] => true
    | _ => false
  | .cons a r, es => match es with
    | e :: es => noStar e && chkE S a e && chkXs S r es
    | [] => false
def chkAs (S : Ck) : As → List Expr → Bool
  | .nil, es => match es with
    | [] => true
    | _ => false
  | .ex a r, es => match es with
    | e :: es => noStar e && chkE S a e && chkAs S r es
    | [] => false
  | .ec i r, es => match es with
    | .Name x _ :: es => nmOk S i x && chkAs S r es
    | _ => false
def chkSrc (S : Ck) : Src → Expr → Bool
  | .e a, e => chkE S a e
  | .rng1 a, e => match e with
    | .Call (.Name f _) [x] [] _ => (f == ("range" : Str)) && isGl S.sc f && noStar x && chkE S a x
    | _ => false
  | .rng2 a b, e => match e with
    | .Call (.Name f _) [x, y] [] _ => (f == ("range" : Str)) && isGl S.sc f && noStar x && noStar y && chkE S a x && chkE S b y
    | _ => false
end
end FV

set_option maxRecDepth 100000
/-! The checker for expressions is right. -/
namespace FV
open PySem PySem.Spec L2 L2H
variable {L : Lw} {S : Ck} {n : Nat}
/-- what holds of the whole law -/
structure Gd (L : Lw) (S : Ck) : Prop where
  M : MgOk L.mg
  Z : XcOk L
  kit : KitOk L.K
  N : NmOk L S
  fd : ∀ f, L.fld f = S.fd f
  fk : ∀ f, S.fok f = true → ∃ F, L.T.fn f = some F
theorem Gd.sc (g : Gd L S) (sc : Scope) : Gd L { S with sc := sc } := ⟨g.M, g.Z, g.kit, ⟨g.N.fn, g.N.xn, g.N.gn⟩, g.fd, g.fk⟩
theorem nmOk_iff {i : Nat} {x : Str} (h : nmOk S i x = true) : S.N[i]? = some x ∧ isVis S.sc x = true ∧ (x == ("__debug__" : Str)) = false ∧ (x == ("__classdict__" : Str)) = false := by
  unfold nmOk at h
  simp only [Bool.and_eq_true, Bool.not_eq_true', beq_iff_eq] at h
  exact ⟨h.1.1.1, h.1.1.2, h.1.2, h.2⟩
theorem view1_ok {px : Px} {X : Cx} {W : WX} {o : O1} {e x : Expr} {fa : Env → Hb → FV.R D} (F : Fit L S n px X) (g : Gd L S) (h : view1 S o e = some x) (ha : PE X x (tE L px W fa)) : PE X e (tE L px W (ev1 o px.isSome fa)) := by
  unfold view1 at h
  split at h
  · rename_i f _ y _
    split at h
    · rename_i c
      cases h
      obtain ⟨c1, c2, c3⟩ := c
      cases e : fnO1 o with
      | none => rw [e] at c1; cases c1
      | some q =>
        rw [e] at c1
        cases c1
        exact pe_fn1 F g.M e c2 c3 ha
    · cases h
  · split at h
    · split at h
      · rename_i u c
        cases h
        obtain ⟨rfl, rfl, c3, c4, c5⟩ := c
        exact pe_isTy F g.M g.kit c3 c4 c5 ha
      · cases h
    · cases h
  · split at h
    · rename_i c
      cases h
      obtain ⟨rfl, rfl, c3, c4⟩ := c
      exact pe_pop0 c3 c4 ha
    · cases h
  · split at h
    · rename_i c
      cases h
      subst c
      exact pe_neg ha
    · cases h
  · cases h
theorem viewA_ok {px : Px} {X : Cx} {W : WX} {o : O1} {e x : Expr} {fa : Env → Hb → FV.R D} (F : Fit L S n px X) (g : Gd L S) (h : viewA S o e = some x) (ha : PE X x (tE L px W fa)) : PE X e (tE L px W (ev1 o px.isSome fa)) := by
  unfold viewA at h
  split at h
  · rename_i ho
    unfold viewLK at h
    split at h
    · split at h
      · rename_i c
        cases h
        obtain ⟨rfl, rfl, c2, c3, c4⟩ := c
        exact pe_lk1 F g.M ho c2 c3 c4 ha
      · cases h
    · cases h
  · exact view1_ok F g h ha
theorem view2_ok {px : Px} {X : Cx} {W : WX} {m : Nat} {o : O2} {e x y : Expr} {fa fb : Env → Hb → FV.R D} (F : Fit L S n px X) (g : Gd L S) (h : view2 S o e = some (x, y)) (ha : PE X x (tE L px W fa)) (hb : PE X y (tE L px W fb)) : PE X e (tE L px W (ev2 m o px.isSome fa fb)) := by
  unfold view2 at h
  split at h
  · split at h
    · rename_i c; cases h; exact pe_binop' c ha hb
    · cases h
  · split at h
    · rename_i c; cases h; subst c; exact pe_slU ha hb
    · cases h
  · split at h
    · rename_i c; cases h; subst c; exact pe_slL ha hb
    · cases h
  · split at h
    · rename_i c; cases h; obtain ⟨rfl, c⟩ := c; exact pe_subs F c ha hb
    · cases h
  · split at h
    · rename_i c; cases h; obtain ⟨c1, c2, c3, c4⟩ := c; exact pe_meth2 F c1 c2 c3 c4 ha hb
    · cases h
  · split at h
    · rename_i c; cases h; obtain ⟨c1, c2, c3, c4⟩ := c; exact pe_fn2 F g.M c1 c2 c3 c4 ha hb
    · cases h
  · cases h
theorem viewC_ok {e x y : Expr} {op : CmpOp} (h : viewC S e = some (x, op, y)) : noSet y = true ∧ ∃ p, e = .Compare x [op] [y] p := by
  unfold viewC at h
  split at h
  · split at h
    · rename_i c; cases h; exact ⟨c, _, rfl⟩
    · cases h
  · cases h
theorem viewC3_ok {e x y z : Expr} {op op' : CmpOp} (h : viewC3 S e = some (x, op, y, op', z)) : noSet y = true ∧ noSet z = true ∧ ∃ p, e = .Compare x [op, op'] [y, z] p := by
  unfold viewC3 at h
  split at h
  · split at h
    · rename_i c; cases h; exact ⟨c.1, c.2, _, rfl⟩
    · cases h
  · cases h
theorem strip_pe {X : Cx} {e : Expr} {t : TE} (h : PE X (strip e) t) : PE X e t := by
  unfold strip at h
  split at h
  · exact pe_one h
  · exact h
theorem strip_pt {X : Cx} {op : PySem.BoolOp} {es : List Expr} {p : Pos} {t : TT} (h : PT X (strip (.BoolOp op es p)) t) : PT X (.BoolOp op es p) t := by
  cases es with
  | nil => exact h
  | cons a r =>
    cases r with
    | nil => cases op <;> first | exact (pw_and1 h).pt | exact (pw_or1 h).pt
    | cons b r => exact h
theorem viewB_ok {op : PySem.BoolOp} {e x y : Expr} (h : viewB op e = some (x, y)) : ∃ z r p, e = .BoolOp op (x :: z :: r) p ∧ y = strip (.BoolOp op (z :: r) p) := by
  unfold viewB at h
  split at h
  · split at h
    · rename_i c; cases h; subst c; exact ⟨_, _, _, rfl, rfl⟩
    · cases h
  · cases h
theorem viewN_ok {e x : Expr} (h : viewN e = some x) : ∃ p, e = .UnaryOp .Not x p := by
  unfold viewN at h
  split at h
  · cases h; exact ⟨_, rfl⟩
  · cases h
theorem viewI_ok {e x y z : Expr} (h : viewI e = some (x, y, z)) : ∃ p, e = .IfExp x y z p := by
  unfold viewI at h
  split at h
  · cases h; exact ⟨_, rfl⟩
  · cases h
theorem view3_ok {o : O3} {e x y z : Expr} (h : view3 o e = some (x, y, z)) : ∃ p q, e = .Subscript x (.Slice (some y) (some z) none p) q := by
  unfold view3 at h
  split at h
  · cases h; exact ⟨_, _, rfl⟩
  · cases h
theorem viewCall_ok {f : Nat} {e : Expr} {es : List Expr} (h : viewCall S f e = some es) : S.fok f = true ∧ ∃ p q, e = .Call (.Name (S.nm f) p) es [] q ∧ isGl S.sc (S.nm f) = true ∧ es.all noStar = true := by
  unfold viewCall at h
  split at h
  · split at h
    · rename_i c; cases h; obtain ⟨c0, rfl, c2, c3⟩ := c; exact ⟨c0, _, _, rfl, c2, c3⟩
    · cases h
  · cases h
theorem viewL_ok {e x t i : Expr} {c : List Expr} {sc : Scope} (h : viewL e = some (x, t, i, c, sc)) : noSet i = true ∧ ∃ p, e = .ListComp x [⟨t, i, c, 0⟩] sc p := by
  unfold viewL at h
  split at h
  · split at h
    · rename_i q; cases h; exact ⟨q, _, rfl⟩
    · cases h
  · cases h
theorem viewD_ok {e k x t i : Expr} {c : List Expr} {sc : Scope} (h : viewD e = some (k, x, t, i, c, sc)) : noSet i = true ∧ ∃ p, e = .DictComp k x [⟨t, i, c, 0⟩] sc p := by
  unfold viewD at h
  split at h
  · split at h
    · rename_i q; cases h; exact ⟨q, _, rfl⟩
    · cases h
  · cases h
theorem isOne_iff {c : Ex} (h : isOne c = true) : c = .bl true := by
  unfold isOne at h
  split at h
  · rfl
  · cases h
theorem own_map {own : List Nat} : (ownOf S own).map (·.2) = own := by
  unfold ownOf
  rw [List.map_map]
  exact List.map_id _

/-- what is walked is that source -/
def PId (L : Lw) (S : Ck) (n : Nat) (ie : Src) (e : Expr) : Prop := ∀ X px m W tg, Fit L S n px X → L2N.Takes X W → PI X tg e (tS L px W (evSrc (cfN L.T n px.isSome m) ie))
theorem blTrue {h : Hb} {b : Bool} : FV.R.bind (.ok (D.bl b) h) truthR = .ok b h := rfl
theorem pts_nilE {X : Cx} {W : WX} : PTs X [] (tT L none W fun _ h => .ok true h) := ⟨fun pins s σ H Q I d => pts_nil.run pins s σ H Q I (by
  obtain ⟨ψ, φ, G, σE, h, rel, er, d⟩ := d
  exact d.val rel rfl)⟩
section
variable (C : CallsOk L n)
include C
theorem call_ok {px : Px} {X : Cx} {m : Nat} {W : WX} {f : Nat} {as : As} {e : Expr} {es : List Expr} (g : Gd L S) (h : viewCall S f e = some es) (hn : (as = .nil ↔ es = [])) (F : Fit L S n px X) (tk : L2N.Takes X W) (ha : PA X es (tAs L px W (evAs (cfN L.T n px.isSome m) as))) :
    PE X e (tE L px W fun σ h => (evAs (cfN L.T n px.isSome m) as σ h).bind fun xs h => callN L.T n px.isSome m f xs h) := by
  obtain ⟨c0, p, q, rfl, c1, c2⟩ := viewCall_ok h
  obtain ⟨F0, ef⟩ := g.fk f c0
  cases es with
  | nil =>
    cases hn.mpr rfl
    have := pe_own0 (m := m) (W := W) (p := p) (pos := q) F tk C g.N ef c1
    simp only [evAs, FV.R.bind_ok]
    exact this
  | cons e es => exact pe_own F tk C g.N ef c1 c2 ha
end
section
variable (C : CallsOk L n)
theorem as_nil {as : As} {es : List Expr} (h : chkAs S as es = true) : as = .nil ↔ es = [] := by
  cases as <;> cases es <;> simp [chkAs] at h ⊢
theorem plain_tests {px : Px} {X : Cx} {W : WX} {m : Nat} {ie : Ex} {e : Expr} (hp : plainT e = true) (h : PE X e (tE L px W (evE (cfN L.T n px.isSome m) ie))) (eq : ∀ σ h, evT (cfN L.T n px.isSome m) ie σ h = (evE (cfN L.T n px.isSome m) ie σ h).bind truthR) :
    PT X e (tT L px W (evT (cfN L.T n px.isSome m) ie)) := by
  have : evT (cfN L.T n px.isSome m) ie = fun σ h => (evE (cfN L.T n px.isSome m) ie σ h).bind truthR := by funext σ h; exact eq σ h
  rw [this]
  exact pt_plain hp h
include C
mutual
theorem chkE_ok : ∀ (ie : Ex) {S : Ck} {e : Expr}, Gd L S → chkE S ie e = true → PEd L S n ie e
  | .var i, S, e, g, h => fun X px m W F tk => by
    simp only [chkE, slotOk] at h
    split at h
    · obtain ⟨h1, h2, h3, h4⟩ := nmOk_iff h
      have := pe_slot (W := W) (xp := by assumption) F h1 h2 h3 h4
      exact this
    · cases h
  | .non, S, e, g, h => fun X px m W F tk => by
    simp only [chkE] at h
    split at h
    · exact pe_const pe_non fun φ G => by simp [Rep]
    · cases h
  | .bl b, S, e, g, h => fun X px m W F tk => by
    simp only [chkE] at h
    split at h
    · rw [beq_iff_eq] at h
      subst h
      exact pe_const pe_bl fun φ G => by simp [Rep]
    · cases h
  | .int i, S, e, g, h => fun X px m W F tk => by
    simp only [chkE] at h
    split at h
    · rw [beq_iff_eq] at h
      subst h
      exact pe_const pe_int fun φ G => by simp [Rep]
    · cases h
  | .str x, S, e, g, h => fun X px m W F tk => by
    simp only [chkE] at h
    split at h
    · rw [decide_eq_true_eq] at h
      subst h
      exact pe_const pe_str fun φ G => by simp [Rep]
    · cases h
  | .glo k, S, e, g, h => fun X px m W F tk => by
    simp only [chkE] at h
    split at h
    · simp only [Bool.and_eq_true, beq_iff_eq] at h
      exact pe_glo F g.N h.1 h.2
    · cases h
  | .op1 o a, S, e, g, h => fun X px m W F tk => by
    simp only [chkE] at h
    split at h
    · rename_i x hv
      have := viewA_ok F g hv (chkE_ok a g h X px m W F tk)
      exact this
    · cases h
  | .op2 o a b, S, e, g, h => fun X px m W F tk => by
    simp only [chkE] at h
    split at h
    · rename_i x y hv
      simp only [Bool.and_eq_true] at h
      have := view2_ok (m := m) F g hv (chkE_ok a g h.1 X px m W F tk) (chkE_ok b g h.2 X px m W F tk)
      exact this
    · cases h
  | .op3 o a b c, S, e, g, h => fun X px m W F tk => by
    simp only [chkE] at h
    split at h
    · rename_i x y z hv
      simp only [Bool.and_eq_true] at h
      obtain ⟨p, q, rfl⟩ := view3_ok hv
      cases o
      have := pe_slLU (p2 := p) (pos := q) (chkE_ok a g h.1.1 X px m W F tk) (chkE_ok b g h.1.2 X px m W F tk) (chkE_ok c g h.2 X px m W F tk)
      exact this
    · cases h
  | .cmp o a b, S, e, g, h => fun X px m W F tk => by
    simp only [chkE] at h
    split at h
    · rename_i x op y hv
      simp only [Bool.and_eq_true, beq_iff_eq] at h
      obtain ⟨hn, p, rfl⟩ := viewC_ok hv
      exact pe_compare F h.1.1 hn (chkE_ok a g h.1.2 X px m W F tk) (chkE_ok b g h.2 X px m W F tk)
    · cases h
  | .cmp3 o p a b c, S, e, g, h => fun X px m W F tk => by
    simp only [chkE] at h
    split at h
    · rename_i x op y op' z hv
      simp only [Bool.and_eq_true, beq_iff_eq] at h
      obtain ⟨hn, hn2, p, rfl⟩ := viewC3_ok hv
      exact pe_chain3 F h.1.1.1.1 h.1.1.1.2 hn hn2 (chkE_ok a g h.1.1.2 X px m W F tk) (chkE_ok b g h.1.2 X px m W F tk) (chkE_ok c g h.2 X px m W F tk)
    · cases h
  | .and a b, S, e, g, h => fun X px m W F tk => by
    simp only [chkE] at h
    split at h
    · rename_i x y hv
      simp only [Bool.and_eq_true] at h
      obtain ⟨z, r, p, rfl, rfl⟩ := viewB_ok hv
      exact pe_andE (chkE_ok a g h.1 X px m W F tk) (strip_pe (chkE_ok b g h.2 X px m W F tk))
    · cases h
  | .or a b, S, e, g, h => fun X px m W F tk => by
    simp only [chkE] at h
    split at h
    · rename_i x y hv
      simp only [Bool.and_eq_true] at h
      obtain ⟨z, r, p, rfl, rfl⟩ := viewB_ok hv
      exact pe_orE (chkE_ok a g h.1 X px m W F tk) (strip_pe (chkE_ok b g h.2 X px m W F tk))
    · cases h
  | .not a, S, e, g, h => fun X px m W F tk => by
    simp only [chkE] at h
    split at h
    · rename_i x hv
      obtain ⟨p, rfl⟩ := viewN_ok hv
      exact pe_notE (chkE_ok a g h X px m W F tk)
    · cases h
  | .ite t a b, S, e, g, h => fun X px m W F tk => by
    simp only [chkE] at h
    split at h
    · rename_i x y z hv
      simp only [Bool.and_eq_true] at h
      obtain ⟨p, rfl⟩ := viewI_ok hv
      exact pe_iteE (chkQ_ok t g h.1.1 X px m W F tk) (chkE_ok a g h.1.2 X px m W F tk) (chkE_ok b g h.2 X px m W F tk)
    · cases h
  | .tup as, S, e, g, h => fun X px m W F tk => by
    simp only [chkE] at h
    split at h
    · exact pe_tupE (chkXs_ok as g h X px m W F tk)
    · cases h
  | .lst b as, S, e, g, h => fun X px m W F tk => by
    simp only [chkE] at h
    split at h
    · exact pe_lstE (chkXs_ok as g h X px m W F tk)
    · cases h
  | .dct0 b, S, e, g, h => fun X px m W F tk => by
    simp only [chkE] at h
    split at h
    · exact pe_dct0
    · cases h
  | .set0 b, S, e, g, h => fun X px m W F tk => by
    simp only [chkE] at h
    split at h
    · simp only [Bool.and_eq_true, beq_iff_eq] at h
      obtain ⟨rfl, h2⟩ := h
      exact pe_set0 F g.M h2
    · cases h
  | .call f as, S, e, g, h => fun X px m W F tk => by
    simp only [chkE] at h
    split at h
    · rename_i es hv
      exact call_ok C g hv (as_nil h) F tk (chkAs_ok as g h X px m W F tk)
    · cases h
  | .new _ _, S, e, g, h => by simp [chkE] at h
  | .fld _ _, S, e, g, h => by simp [chkE] at h
  | .lc b own tg it c e0, S, e, g, h => fun X px m W F tk => by
    simp only [chkE] at h
    split at h
    · rename_i x t i cs sc hv
      simp only [Bool.and_eq_true] at h
      obtain ⟨⟨⟨⟨⟨h1, h2⟩, h3⟩, h4⟩, h5⟩, h6⟩ := h
      obtain ⟨hs, p, rfl⟩ := viewL_ok hv
      cases px with
      | some q =>
        refine ⟨fun pins s σ H Q I d => ?_⟩
        obtain ⟨ψ, φ, G, σE, h, rel, er, d⟩ := d
        simp only [evE, cfN, cfOf, Option.isSome, if_true] at d
        exact d.elim
      | none =>
        have src := chkSrc_ok it g h2 X none m W t F tk
        have key := pe_lcE (b := b) (pos := p) (own := ownOf S own) (elt := x) (tgs := tg) (ifs := cs) (fc := evT (cfN L.T n false m) c) (fe := evE (cfN L.T n false m) e0) F h1 src h3 (by rw [own_map]; intro i hi; simpa using List.all_eq_true.mp h4 i hi) (fun X' F' tk' => ?_) (fun X' F' tk' => chkE_ok e0 (g.sc sc) h6 X' none m WF F' tk') hs
        · rw [own_map] at key
          exact key
        · split at h5
          · cases isOne_iff h5
            exact pts_nilE
          · exact pts_one (chkQ_ok c (g.sc sc) h5 X' none m WF F' tk')
          · cases h5
    · cases h
  | .dc b own tg it c k0 e0, S, e, g, h => fun X px m W F tk => by
    simp only [chkE] at h
    split at h
    · rename_i k x t i cs sc hv
      simp only [Bool.and_eq_true] at h
      obtain ⟨⟨⟨⟨⟨⟨h1, h2⟩, h3⟩, h4⟩, h5⟩, h6⟩, h7⟩ := h
      obtain ⟨hs, p, rfl⟩ := viewD_ok hv
      cases px with
      | some q =>
        refine ⟨fun pins s σ H Q I d => ?_⟩
        obtain ⟨ψ, φ, G, σE, h, rel, er, d⟩ := d
        simp only [evE, cfN, cfOf, Option.isSome, if_true] at d
        exact d.elim
      | none =>
        have src := chkSrc_ok it g h2 X none m W t F tk
        have key := pe_dcE (b := b) (pos := p) (own := ownOf S own) (kx := k) (vx := x) (tgs := tg) (ifs := cs) (fc := evT (cfN L.T n false m) c) (fk := evE (cfN L.T n false m) k0) (fe := evE (cfN L.T n false m) e0) F h1 src h3 (by rw [own_map]; intro i hi; simpa using List.all_eq_true.mp h4 i hi) (fun X' F' tk' => ?_)
          (fun X' F' tk' => chkE_ok k0 (g.sc sc) h6 X' none m WF F' tk') (fun X' F' tk' => chkE_ok e0 (g.sc sc) h7 X' none m WF F' tk') hs
        · rw [own_map] at key
          exact key
        · split at h5
          · cases isOne_iff h5
            exact pts_nilE
          · exact pts_one (chkQ_ok c (g.sc sc) h5 X' none m WF F' tk')
          · cases h5
    · cases h
  | .isE i c, S, e, g, h => fun X px m W F tk => by
    simp only [chkE] at h
    split at h
    · simp only [Bool.and_eq_true, beq_iff_eq] at h
      obtain ⟨⟨⟨⟨rfl, h2⟩, h3⟩, h4⟩, h5⟩ := h
      obtain ⟨k1, k2, k3, k4⟩ := nmOk_iff h3
      exact pe_isE F g.M g.Z g.N h2 k1 k2 k3 k4 h4 h5
    · cases h
  | .isV i, S, e, g, h => fun X px m W F tk => by
    simp only [chkE] at h
    split at h
    · simp only [Bool.and_eq_true, beq_iff_eq] at h
      obtain ⟨⟨⟨⟨rfl, h2⟩, h3⟩, rfl⟩, h5⟩ := h
      obtain ⟨k1, k2, k3, k4⟩ := nmOk_iff h3
      exact pe_isV F g.M g.Z h2 k1 k2 k3 k4 h5
    · cases h
  | .atE i f, S, e, g, h => fun X px m W F tk => by
    simp only [chkE] at h
    split at h
    · simp only [Bool.and_eq_true, beq_iff_eq] at h
      obtain ⟨k1, k2, k3, k4⟩ := nmOk_iff h.1
      rw [← h.2, ← g.fd]
      exact pe_atE F g.Z k1 k2 k3 k4
    · cases h
theorem chkQ_ok : ∀ (ie : Ex) {S : Ck} {e : Expr}, Gd L S → chkQ S ie e = true → PTd L S n ie e
  | .cmp o a b, S, e, g, h => fun X px m W F tk => by
    simp only [chkQ] at h
    split at h
    · rename_i x op y hv
      simp only [Bool.and_eq_true, beq_iff_eq] at h
      obtain ⟨hn, p, rfl⟩ := viewC_ok hv
      exact pt_compare F h.1.1 hn (chkE_ok a g h.1.2 X px m W F tk) (chkE_ok b g h.2 X px m W F tk)
    · cases h
  | .cmp3 o p a b c, S, e, g, h => fun X px m W F tk => by
    simp only [chkQ] at h
    split at h
    · rename_i x op y op' z hv
      simp only [Bool.and_eq_true, beq_iff_eq] at h
      obtain ⟨hn, hn2, p, rfl⟩ := viewC3_ok hv
      exact pt_chain3 F h.1.1.1.1 h.1.1.1.2 hn hn2 (chkE_ok a g h.1.1.2 X px m W F tk) (chkE_ok b g h.1.2 X px m W F tk) (chkE_ok c g h.2 X px m W F tk)
    · cases h
  | .and a b, S, e, g, h => fun X px m W F tk => by
    simp only [chkQ] at h
    split at h
    · rename_i x y hv
      simp only [Bool.and_eq_true] at h
      obtain ⟨z, r, p, rfl, rfl⟩ := viewB_ok hv
      exact pt_andE (chkQ_ok a g h.1 X px m W F tk) (strip_pt (chkQ_ok b g h.2 X px m W F tk))
    · cases h
  | .or a b, S, e, g, h => fun X px m W F tk => by
    simp only [chkQ] at h
    split at h
    · rename_i x y hv
      simp only [Bool.and_eq_true] at h
      obtain ⟨z, r, p, rfl, rfl⟩ := viewB_ok hv
      exact pt_orE (chkQ_ok a g h.1 X px m W F tk) (strip_pt (chkQ_ok b g h.2 X px m W F tk))
    · cases h
  | .not a, S, e, g, h => fun X px m W F tk => by
    simp only [chkQ] at h
    split at h
    · rename_i x hv
      obtain ⟨p, rfl⟩ := viewN_ok hv
      exact pt_notE (chkQ_ok a g h X px m W F tk)
    · cases h
  | .var i, S, e, g, h => fun X px m W F tk => by
    have h' : slotOk S i e = true := by simpa only [chkQ] using h
    have pl : plainT e = true := by unfold slotOk at h'; split at h' <;> first | rfl | cases h'
    have pe : PE X e (tE L px W (evE (cfN L.T n px.isSome m) (.var i))) := by
      unfold slotOk at h'
      split at h'
      · obtain ⟨h1, h2, h3, h4⟩ := nmOk_iff h'
        exact pe_slot (W := W) F h1 h2 h3 h4
      · cases h'
    refine plain_tests pl pe fun σ h => ?_
    simp only [evT, evE]
    cases getV σ i <;> rfl
  | .op1 o a, S, e, g, h => fun X px m W F tk => by
    simp only [chkQ, Bool.and_eq_true] at h
    obtain ⟨pl, h⟩ := h
    split at h
    · rename_i x hv
      refine plain_tests pl (viewA_ok F g hv (chkE_ok a g h X px m W F tk)) fun σ h => ?_
      simp only [evT, evE, FV.R.bind_assoc]
    · cases h
  | .op2 o a b, S, e, g, h => fun X px m W F tk => by
    simp only [chkQ, Bool.and_eq_true] at h
    obtain ⟨pl, h⟩ := h
    split at h
    · rename_i x y hv
      simp only [Bool.and_eq_true] at h
      refine plain_tests pl (view2_ok (m := m) F g hv (chkE_ok a g h.1 X px m W F tk) (chkE_ok b g h.2 X px m W F tk)) fun σ h => ?_
      simp only [evT, evE, FV.R.bind_assoc]
      congr 1
      funext x h
      split
      · rw [FV.R.bind_assoc]
      · rfl
    · cases h
  | .call f as, S, e, g, h => fun X px m W F tk => by
    simp only [chkQ] at h
    split at h
    · rename_i es hv
      have pl : plainT e = true := by
        obtain ⟨_, p, q, rfl, _⟩ := viewCall_ok hv
        rfl
      refine plain_tests pl (call_ok C g hv (as_nil h) F tk (chkAs_ok as g h X px m W F tk)) fun σ h => ?_
      simp only [evT, evE, FV.R.bind_assoc]
    · cases h
  | .isE i c, S, e, g, h => fun X px m W F tk => by
    simp only [chkQ] at h
    split at h
    · simp only [Bool.and_eq_true, beq_iff_eq] at h
      obtain ⟨⟨⟨⟨rfl, h2⟩, h3⟩, h4⟩, h5⟩ := h
      obtain ⟨k1, k2, k3, k4⟩ := nmOk_iff h3
      refine plain_tests rfl (pe_isE F g.M g.Z g.N h2 k1 k2 k3 k4 h4 h5) fun σ h => ?_
      simp only [evT, evE]
      cases getX σ i with
      | none => rfl
      | some q => rfl
    · cases h
  | .isV i, S, e, g, h => fun X px m W F tk => by
    simp only [chkQ] at h
    split at h
    · simp only [Bool.and_eq_true, beq_iff_eq] at h
      obtain ⟨⟨⟨⟨rfl, h2⟩, h3⟩, rfl⟩, h5⟩ := h
      obtain ⟨k1, k2, k3, k4⟩ := nmOk_iff h3
      refine plain_tests rfl (pe_isV F g.M g.Z h2 k1 k2 k3 k4 h5) fun σ h => ?_
      simp only [evT, evE]
      cases getX σ i with
      | none => rfl
      | some q => rfl
    · cases h
  | .non, S, e, g, h => by simp [chkQ] at h
  | .bl _, S, e, g, h => by simp [chkQ] at h
  | .int _, S, e, g, h => by simp [chkQ] at h
  | .str _, S, e, g, h => by simp [chkQ] at h
  | .glo _, S, e, g, h => by simp [chkQ] at h
  | .op3 _ _ _ _, S, e, g, h => by simp [chkQ] at h
  | .ite _ _ _, S, e, g, h => by simp [chkQ] at h
  | .tup _, S, e, g, h => by simp [chkQ] at h
  | .lst _ _, S, e, g, h => by simp [chkQ] at h
  | .dct0 _, S, e, g, h => by simp [chkQ] at h
  | .set0 _, S, e, g, h => by simp [chkQ] at h
  | .new _ _, S, e, g, h => by simp [chkQ] at h
  | .fld _ _, S, e, g, h => by simp [chkQ] at h
  | .lc _ _ _ _ _ _, S, e, g, h => by simp [chkQ] at h
  | .dc _ _ _ _ _ _ _, S, e, g, h => by simp [chkQ] at h
  | .atE _ _, S, e, g, h => by simp [chkQ] at h
theorem chkXs_ok : ∀ (as : Xs) {S : Ck} {es : List Expr}, Gd L S → chkXs S as es = true → PXd L S n as es
  | .nil, S, es, g, h => fun X px m W F tk => by
    simp only [chkXs] at h
    split at h
    · exact pxs_nil
    · cases h
  | .cons a r, S, es, g, h => fun X px m W F tk => by
    simp only [chkXs] at h
    split at h
    · simp only [Bool.and_eq_true] at h
      exact pxs_cons h.1.1 (chkE_ok a g h.1.2 X px m W F tk) (chkXs_ok r g h.2 X px m W F tk)
    · cases h
theorem chkAs_ok : ∀ (as : As) {S : Ck} {es : List Expr}, Gd L S → chkAs S as es = true → PAd L S n as es
  | .nil, S, es, g, h => fun X px m W F tk => by
    simp only [chkAs] at h
    split at h
    · exact pas_nil
    · cases h
  | .ex a r, S, es, g, h => fun X px m W F tk => by
    simp only [chkAs] at h
    split at h
    · simp only [Bool.and_eq_true] at h
      exact pas_cons h.1.1 (chkE_ok a g h.1.2 X px m W F tk) (chkAs_ok r g h.2 X px m W F tk)
    · cases h
  | .ec i r, S, es, g, h => fun X px m W F tk => by
    simp only [chkAs] at h
    split at h
    · simp only [Bool.and_eq_true] at h
      obtain ⟨k1, k2, k3, k4⟩ := nmOk_iff h.1
      exact pas_exc F k1 k2 k3 k4 (chkAs_ok r g h.2 X px m W F tk)
    · cases h
theorem chkSrc_ok : ∀ (as : Src) {S : Ck} {e : Expr}, Gd L S → chkSrc S as e = true → PId L S n as e
  | .e a, S, e, g, h => fun X px m W tg F tk => by
    simp only [chkSrc] at h
    exact pi_src F (chkE_ok a g h X px m W F tk)
  | .rng1 a, S, e, g, h => fun X px m W tg F tk => by
    simp only [chkSrc] at h
    split at h
    · simp only [Bool.and_eq_true, beq_iff_eq] at h
      obtain ⟨⟨⟨rfl, h2⟩, h3⟩, h4⟩ := h
      exact pi_rng1 F g.M h2 h3 (chkE_ok a g h4 X px m W F tk)
    · cases h
  | .rng2 a b, S, e, g, h => fun X px m W tg F tk => by
    simp only [chkSrc] at h
    split at h
    · simp only [Bool.and_eq_true, beq_iff_eq] at h
      obtain ⟨⟨⟨⟨⟨rfl, h2⟩, h3⟩, h4⟩, h5⟩, h6⟩ := h
      exact pi_rng2 F g.M h2 h3 h4 (chkE_ok a g h5 X px m W F tk) (chkE_ok b g h6 X px m W F tk)
    · cases h
end
end
end FV

set_option maxRecDepth 100000
/-! Statements. -/
namespace FV
open PySem PySem.Spec L2 L2H
variable {L : Lw} {S : Ck} {n : Nat}
/-- from an outcome of the evaluator: what is wanted of each end -/
def DenS (L : Lw) (px : Px) (ψ : List (Addr × HO)) (W : WX) (φ : List Addr) (G : Hp) (o : Out) (D : Ends) : Prop :=
  match o with
  | .nx σ' h' => ∀ φ' G' H' σV, φ <+: φ' → RLe G G' → Rel L ψ φ' G' H' h' → ERep L px φ' G' σ' σV → D.nx σV H'
  | .rt d h' => ∀ φ' G' H' v, φ <+: φ' → RLe G G' → Rel L ψ φ' G' H' h' → Rep L φ' G' d v → D.rt v H'
  | .ex c ns vs σ' h' => ∀ φ' G' H' σV d, φ <+: φ' → RLe G G' → Rel L ψ φ' G' H' h' → ERep L px φ' G' σ' σV → XRep L φ' G' ns vs d → W (.ref (L.ecl c)) d σV H'
  | .st => False
def tSs (L : Lw) (px : Px) (W : WX) (f : Env → Hb → Out) : TS := fun D σV H => ∃ ψ φ G σ h, Rel L ψ φ G H h ∧ ERep L px φ G σ σV ∧ DenS L px ψ W φ G (f σ h) D
section
variable {px : Px} {ψ : List (Addr × HO)} {W : WX} {φ φ' : List Addr} {G G' H : Hp} {h : Hb} {D D' : Ends} {σ : Env} {σV : L2.St}
theorem DenS.mono {o : Out} (x : DenS L px ψ W φ G o D) (p : φ <+: φ') (l : RLe G G') : DenS L px ψ W φ' G' o D := by
  cases o with
  | nx σ' h' => exact fun φ2 G2 H2 σV p2 l2 => x φ2 G2 H2 σV (p.trans p2) (l.trans l2)
  | rt d h' => exact fun φ2 G2 H2 v p2 l2 => x φ2 G2 H2 v (p.trans p2) (l.trans l2)
  | ex c ns vs σ' h' => exact fun φ2 G2 H2 σV d p2 l2 => x φ2 G2 H2 σV d (p.trans p2) (l.trans l2)
  | st => exact x
theorem DenS.next (x : DenS L px ψ W φ G (.nx σ h) D) (rel : Rel L ψ φ G H h) (er : ERep L px φ G σ σV) : D.nx σV H := x φ G H σV (List.prefix_refl _) RLe.refl rel er
theorem DenS.ret {d : FV.D} {v : V} (x : DenS L px ψ W φ G (.rt d h) D) (rel : Rel L ψ φ G H h) (r : Rep L φ G d v) : D.rt v H := x φ G H v (List.prefix_refl _) RLe.refl rel r
/-- an expression first, then something of its value -/
theorem DenS.from {α β : Type} {ρ : List Addr → Hp → α → β → Prop} {r : FV.R α} {f : α → Hb → Out} {Q1 : β → Hp → Prop} (er : ERep L px φ G σ σV) (x : DenS L px ψ W φ G (fromR r σ f) D)
    (k : ∀ a h1 φ1 G1 H1 b, φ <+: φ1 → RLe G G1 → Rel L ψ φ1 G1 H1 h1 → ρ φ1 G1 a b → DenS L px ψ W φ1 G1 (f a h1) D → Q1 b H1) : DenR L ψ ρ W σV φ G r Q1 := by
  cases r with
  | ok a h1 => exact fun φ1 G1 H1 b p l rel rb => k a h1 φ1 G1 H1 b p l rel rb (DenS.mono x p l)
  | ex c ns vs h1 => exact fun φ1 G1 H1 d p l rel xr => x φ1 G1 H1 σV d p l rel (er.mono p l) xr
  | st => exact x
theorem _root_.L2.PS.imp {X : Cx} {st : Stmt} {t t' : TS} (h : PS X st t) (k : ∀ D σ H, t' D σ H → t D σ H) : PS X st t' := ⟨fun pins s σ H D I q => h.run pins s σ H D I (k D σ H q)⟩
theorem _root_.L2.PSs.imp {X : Cx} {st : List Stmt} {t t' : TS} (h : PSs X st t) (k : ∀ D σ H, t' D σ H → t D σ H) : PSs X st t' := ⟨fun pins s σ H D I q => h.run pins s σ H D I (k D σ H q)⟩
end
section
variable {X : Cx} {px : Px} {W : WX} {m : Nat} {e x y tg : Expr} {es : List Expr} {p pos : Pos} {fa fb fc : Env → Hb → FV.R D} {ga : Env → Hb → FV.R Bool} {f g : Env → Hb → Out} {st : Stmt} {sts su : List Stmt}
theorem pss_nilE : PSs X [] (tSs L px W fun σ h => .nx σ h) := pss_nil.imp fun D σ H d => by
  obtain ⟨ψ, φ, G, σE, h, rel, er, d⟩ := d
  exact d.next rel er
theorem pss_consE (h1 : PS X st (tSs L px W f)) (h2 : PSs X sts (tSs L px W g)) : PSs X (st :: sts) (tSs L px W fun σ h => (f σ h).andThen g) := (pss_cons h1 h2).imp fun D σ H d => by
  obtain ⟨ψ, φ, G, σE, h, rel, er, d⟩ := d
  refine ⟨ψ, φ, G, σE, h, rel, er, ?_⟩
  dsimp only at d
  cases e : f σE h with
  | nx σ' h' =>
    rw [e] at d
    exact fun φ1 G1 H1 σV p l rel1 er1 => ⟨ψ, φ1, G1, σ', h', rel1, er1, DenS.mono (show DenS L px ψ W φ G (g σ' h') D from d) p l⟩
  | rt v h' => rw [e] at d; exact d
  | ex c ns vs σ' h' => rw [e] at d; exact d
  | st => rw [e] at d; exact d
theorem ps_passE : PS X (.Pass pos) (tSs L px W fun σ h => .nx σ h) := ps_pass.imp fun D σ H d => by
  obtain ⟨ψ, φ, G, σE, h, rel, er, d⟩ := d
  exact d.next rel er
theorem ps_exprE (hn : noComp e = true) (ha : PE X e (tE L px W fa)) : PS X (.Expr e pos) (tSs L px W fun σ h => fromR (fa σ h) σ fun _ h => .nx σ h) := (ps_expr ha (swaps_of hn)).imp fun D σ H d => by
  obtain ⟨ψ, φ, G, σE, h, rel, er, d⟩ := d
  exact ⟨ψ, φ, G, σE, h, rel, er, DenS.from er d fun a h1 φ1 G1 H1 v p1 l1 rel1 r1 d1 => d1.next rel1 (er.mono p1 l1)⟩
theorem ps_retE (ha : PE X e (tE L px W fa)) : PS X (.Return (some e) pos) (tSs L px W fun σ h => fromR (fa σ h) σ fun d h => .rt d h) := (ps_ret ha).imp fun D σ H d => by
  obtain ⟨ψ, φ, G, σE, h, rel, er, d⟩ := d
  exact ⟨ψ, φ, G, σE, h, rel, er, DenS.from er d fun a h1 φ1 G1 H1 v p1 l1 rel1 r1 d1 => d1.ret rel1 r1⟩
theorem ps_retNE : PS X (.Return none pos) (tSs L px W fun σ h => .rt .non h) := ps_retN.imp fun D σ H d => by
  obtain ⟨ψ, φ, G, σE, h, rel, er, d⟩ := d
  exact d.ret rel (by simp [Rep])
theorem asg_name {D : Ends} {σ : L2.St} {H : Hp} {i : Nat} (d : tSs L px W (fun σ h => fromR (fa σ h) σ fun d h => .nx (σ.set i (some (.v d))) h) D σ H) : tAsg (tE L px W fa) (gName i) D σ H := by
  obtain ⟨ψ, φ, G, σE, h, rel, er, d⟩ := d
  exact ⟨ψ, φ, G, σE, h, rel, er, DenS.from er d fun a h1 φ1 G1 H1 v p1 l1 rel1 r1 d1 => d1.next rel1 ((er.mono p1 l1).set (s := .v a) r1)⟩
theorem ps_setE {i : Nat} {z : Str} (F : Fit L S n px X) (hi : S.N[i]? = some z) (hl : isLoc S.sc z = true) (hn : noComp e = true) (ha : PE X e (tE L px W fa)) :
    PS X (.Assign [.Name z p] e pos) (tSs L px W fun σ h => fromR (fa σ h) σ fun d h => .nx (σ.set i (some (.v d))) h) := by
  obtain ⟨l1, l2⟩ := F.loc z hl
  exact (ps_set (by rw [F.N]; exact F.nd) (by rw [F.N]; exact hi) l1 ha (swaps_of hn) l2).imp fun D σ H d => asg_name d
def noTup : Expr → Bool
  | .Tuple _ _ _ => false
  | _ => true
theorem swappedT_of {es : List Expr} {k : Nat} {q : Pos} {env : PySem.Env} (h : noTup e = true) : swappedStores [.Tuple es k q] e env = pure none := by
  cases e <;> first | rfl | cases h
theorem swapsSole_of {t : Expr} {l : Nat} {env : PySem.Env} (h : noComp e = true) : swapsWithSole [t] e l env = pure false := swaps_of h
theorem ps_unpE {is : List Nat} {k : Nat} {q : Pos} (F : Fit L S n none X) (hT : chkT S is (.Tuple es k q) = true) (hn : noComp e = true) (ht : noTup e = true) (hl : 2 ≤ is.length) (ha : PE X e (tE L none W fa)) :
    PS X (.Assign [.Tuple es k q] e pos) (tSs L none W fun σ h => fromR (fa σ h) σ fun d h => match bindT h σ is d with
      | some σ' => if 2 ≤ is.length then .nx σ' h else .st
      | none => .st) :=
  (ps_asg ha (pg_T F (.inl F.calm) hT) (swapsSole_of hn) (swappedT_of ht)).imp fun D σ H d => by
    obtain ⟨ψ, φ, G, σE, h, rel, er, d⟩ := d
    refine ⟨ψ, φ, G, σE, h, rel, er, DenS.from er d fun a h1 φ1 G1 H1 v p1 l1 rel1 r1 d1 => ?_⟩
    cases eb : bindT h1 σE is a with
    | none => rw [eb] at d1; exact d1.elim
    | some σ' =>
      rw [eb] at d1
      dsimp only at d1
      rw [if_pos hl] at d1
      exact gT_of rel1 (er.mono p1 l1) r1 eb fun vs er2 => d1.next rel1 er2
theorem ps_ifE (ht : PT X x (tT L px W ga)) (ha : PSs X sts (tSs L px W f)) (hb : PSs X su (tSs L px W g)) : PS X (.If x sts su pos) (tSs L px W fun σ h => fromR (ga σ h) σ fun k h => if k then f σ h else g σ h) := (ps_if ht ha hb).imp fun D σ H d => by
  obtain ⟨ψ, φ, G, σE, h, rel, er, d⟩ := d
  refine ⟨ψ, φ, G, σE, h, rel, er, DenS.from er d fun k h1 φ1 G1 H1 c p1 l1 rel1 r1 d1 => ?_⟩
  cases r1
  cases k with
  | true => exact ⟨ψ, φ1, G1, σE, h1, rel1, er.mono p1 l1, d1⟩
  | false => exact ⟨ψ, φ1, G1, σE, h1, rel1, er.mono p1 l1, d1⟩
/-- while, by the count of its turns -/
theorem ps_whileE (F : Fit L S n px X) (ht : PT X x (tT L px W ga)) (hb : PSs X sts (tSs L px W f)) : PS X (.While x sts [] pos) (tSs L px W fun σ h => whl ga f σ h) := (ps_while F.pass ht hb).imp fun D σ H d => by
  obtain ⟨ψ, φ0, G0, σE, h, rel, er, d⟩ := d
  rcases whl_cases ga f σE h with ⟨n0, e0⟩ | e0
  · refine ⟨fun m σV H => ∃ φ G σE h o, φ0 <+: φ ∧ RLe G0 G ∧ Rel L ψ φ G H h ∧ ERep L px φ G σE σV ∧ whlN ga f m σE h = some o ∧ DenS L px ψ W φ G o D, ⟨n0, φ0, G0, σE, h, _, List.prefix_refl _, RLe.refl, rel, er, e0, d⟩, ?_⟩
    rintro m' σV H ⟨φ, G, σ1, h1, o, p1, l1, rel1, er1, e1, d1⟩
    cases m' with
    | zero => cases e1
    | succ k =>
      unfold whlN at e1
      refine ⟨ψ, φ, G, σ1, h1, rel1, er1, ?_⟩
      cases et : ga σ1 h1 with
      | st =>
        simp only [et, Option.some.injEq] at e1
        subst e1
        exact d1.elim
      | ex c ns vs h2 =>
        simp only [et, Option.some.injEq] at e1
        subst e1
        exact fun φ2 G2 H2 d p2 l2 rel2 xr => d1 φ2 G2 H2 σV d p2 l2 rel2 (er1.mono p2 l2) xr
      | ok b h2 =>
        refine fun φ2 G2 H2 b' p2 l2 rel2 rb => ?_
        cases rb
        cases b with
        | false =>
          simp only [et, Option.some.injEq] at e1
          subst e1
          rw [if_neg (by decide)]
          exact d1 φ2 G2 H2 σV p2 l2 rel2 (er1.mono p2 l2)
        | true =>
          rw [if_pos rfl]
          simp only [et] at e1
          refine ⟨fun σV' H' => ∃ φ G σE h o, φ0 <+: φ ∧ RLe G0 G ∧ Rel L ψ φ G H' h ∧ ERep L px φ G σE σV' ∧ whlN ga f k σE h = some o ∧ DenS L px ψ W φ G o D, fun σ' H' z => ⟨k, Nat.lt_succ_self _, z⟩, ψ, φ2, G2, σ1, h2, rel2, er1.mono p2 l2, ?_⟩
          cases eb : f σ1 h2 with
          | nx σ3 h3 =>
            simp only [eb] at e1
            exact fun φ3 G3 H3 σV3 p3 l3 rel3 er3 => ⟨φ3, G3, σ3, h3, o, (p1.trans p2).trans p3, (l1.trans l2).trans l3, rel3, er3, e1, d1.mono (p2.trans p3) (l2.trans l3)⟩
          | rt v h3 =>
            simp only [eb, Option.some.injEq] at e1
            subst e1
            exact DenS.mono d1 p2 l2
          | ex c ns vs σ3 h3 =>
            simp only [eb, Option.some.injEq] at e1
            subst e1
            exact DenS.mono d1 p2 l2
          | st =>
            simp only [eb, Option.some.injEq] at e1
            subst e1
            exact d1.elim
  · dsimp only at d
    rw [e0] at d
    exact d.elim
/-- for, over what stays -/
theorem for_red {K : PySem.W.Frag} {fs : Env → Hb → FV.R (FV.D × List FV.D)} {tgs : List Nat} {D : Ends} {σ : L2.St} {H : Hp} (d : tSs L px W (fun σ h => fromR (fs σ h) σ fun p h => forGo tgs (stays h p.1) f p.2 σ h) D σ H) :
    tFor (tS L px W fs) (gT K tgs) (tSs L px W f) D σ H := by
  obtain ⟨ψ, φ, G, σE, h, rel, er, d⟩ := d
  refine ⟨ψ, φ, G, σE, h, rel, er, ?_⟩
  dsimp only at d
  cases e : fs σE h with
  | st => rw [e] at d; exact d
  | ex c ns vs h1 => rw [e] at d; exact fun φ1 G1 H1 dd p1 l1 rel1 xr => d φ1 G1 H1 σ dd p1 l1 rel1 (er.mono p1 l1) xr
  | ok p h1 =>
    rw [e] at d
    simp only [fromR_ok] at d
    refine fun φ1 G1 H1 J p1 l1 rel1 wk => ?_
    refine ⟨fun i m σV H => m = p.2.length - i ∧ i ≤ p.2.length ∧ ∃ φ G σE h, φ1 <+: φ ∧ RLe G1 G ∧ Rel L ψ φ G H h ∧ ERep L px φ G σE σV ∧ DenS L px ψ W φ G (forGo tgs (stays h1 p.1) f (p.2.drop i) σE h) D,
      ⟨p.2.length, by simp, Nat.zero_le _, φ1, G1, σE, h1, List.prefix_refl _, RLe.refl, rel1, er.mono p1 l1, by
        have := DenS.mono d p1 l1
        simpa using this⟩, ?_⟩
    rintro i m' σV H ⟨rfl, hi, φ2, G2, σ2, h2, p2, l2, rel2, er2, d2⟩
    by_cases hlt : i < p.2.length
    · rw [List.drop_eq_getElem_cons hlt, forGo] at d2
      by_cases hst : stays h1 p.1 h2 = true
      · rw [if_pos hst] at d2
        obtain ⟨go, yl⟩ := (wk _ φ2 G2 H h2 i p2 l2 rel2 hst).1 hlt
        refine .inr ⟨go, fun σV' H' => ∃ φ G σE h, φ1 <+: φ ∧ RLe G1 G ∧ Rel L ψ φ G H' h ∧ ERep L px φ G σE σV' ∧ DenS L px ψ W φ G (forGo tgs (stays h1 p.1) f (p.2.drop (i + 1)) σE h) D, fun σ' H' z => ⟨p.2.length - (i + 1), by omega, rfl, hlt, z⟩, fun x H' y => ?_⟩
        obtain ⟨a, e1, e2, ra⟩ := yl x H' y
        subst e1
        have ea : p.2[i] = a := by
          obtain ⟨_, q⟩ := List.getElem?_eq_some_iff.mp e2
          exact q
        rw [ea] at d2
        cases eb : bindT h2 σ2 tgs a with
        | none => rw [eb] at d2; exact d2.elim
        | some σ' =>
          rw [eb] at d2
          dsimp only at d2
          refine gT_of rel2 er2 ra eb fun vs er3 => ⟨ψ, φ2, G2, σ', h2, rel2, er3, ?_⟩
          cases ef : f σ' h2 with
          | nx σ4 h4 =>
            rw [ef] at d2
            exact fun φ4 G4 H4 σV4 p4 l4 rel4 er4 => ⟨φ4, G4, σ4, h4, p2.trans p4, l2.trans l4, rel4, er4, DenS.mono (show DenS L px ψ W φ2 G2 (forGo tgs (stays h1 p.1) f (p.2.drop (i + 1)) σ4 h4) D from d2) p4 l4⟩
          | rt v h4 => rw [ef] at d2; exact d2
          | ex c ns vs σ4 h4 => rw [ef] at d2; exact d2
          | st => rw [ef] at d2; exact d2
      · rw [if_neg hst] at d2
        exact d2.elim
    · have e0 : p.2.drop i = [] := List.drop_eq_nil_of_le (by omega)
      rw [e0, forGo] at d2
      by_cases hst : stays h1 p.1 h2 = true
      · rw [if_pos hst] at d2
        exact .inl ⟨(wk _ φ2 G2 H h2 i p2 l2 rel2 hst).2 (by omega), d2.next rel2 er2⟩
      · rw [if_neg hst] at d2
        exact d2.elim
theorem ps_forE {fs : Env → Hb → FV.R (FV.D × List FV.D)} {tgs : List Nat} {it : Expr} (F : Fit L S n none X) (hT : chkT S tgs tg = true) (hs : noSet it = true) (hi : PI X tg it (tS L none W fs)) (hb : PSs X sts (tSs L none W f)) :
    PS X (.For tg it sts [] pos) (tSs L none W fun σ h => fromR (fs σ h) σ fun p h => forGo tgs (stays h p.1) f p.2 σ h) :=
  (ps_for F.pass F.calm hi (pg_T F (.inl F.calm) hT) hb (folded_of hs)).imp fun D σ H d => for_red d
theorem ps_forHE {fs : Env → Hb → FV.R (FV.D × List FV.D)} {i : Nat} {it : Expr} {q : Addr × Obj} (F : Fit L S n (some q) X) (hT : chkT S [i] tg = true) (hs : noSet it = true) (hi : PIH X tg it (tS L (some q) W fs)) (hb : PSs X sts (tSs L (some q) W f)) :
    PS X (.For tg it sts [] pos) (tSs L (some q) W fun σ h => fromR (fs σ h) σ fun p h => forGo [i] (stays h p.1) f p.2 σ h) :=
  (ps_forH F.pass ⟨q, F.room.1, F.room.2.1⟩ hi (pg_T F (.inr rfl) hT) hb (folded_of hs)).imp fun D σ H d => for_red d
/-! ### o[i] = v -/
def rSetA : TSet := fun o i v H Q => rSetL o i v H Q ∨ rSetD o i v H Q
theorem set_any (F : Fit L S n px X) : PSet X rSetA := by
  have hu := F.units
  intro pins s σ H o i v ov iv u Q I ro ri rv q
  rcases q with q | q
  · exact set_list pins s σ H o i v ov iv u Q I ro ri rv q
  · exact set_dict (by omega) pins s σ H o i v ov iv u Q I ro ri rv q
theorem seti_s {o iD v : FV.D} {ov iv vv : V} {ψ : List (Addr × HO)} {φ : List Addr} {G H : Hp} {h h' : Hb} {Q : Hp → Prop} (rel : Rel L ψ φ G H h) (ro : Rep L φ G o ov) (ri : Rep L φ G iD iv) (rv : Rep L φ G v vv) (e : setiB m h o iD v = some h')
    (q : ∀ H', Rel L ψ φ G H' h' → Q H') : rSetA ov iv vv H Q := by
  cases o with
  | box j =>
    simp only [Rep] at ro
    obtain ⟨a, rfl, ea⟩ := ro
    unfold setiB at e
    dsimp only at e
    cases eb : bx h j with
    | none => rw [eb] at e; cases e
    | some ob =>
      rw [eb] at e
      obtain ⟨a', ea', orep⟩ := rel.box j ob eb
      rw [ea] at ea'
      cases ea'
      cases ob with
      | lst xs =>
        obtain ⟨vs, hv, rs⟩ := orep
        dsimp only at e
        cases iD with
        | int k =>
          dsimp only at e
          split at e
          · rename_i c
            cases e
            have hl := rs.length
            refine .inl ⟨a, vs, k, (nix k xs.length).toNat, rfl, by simpa [Rep] using ri, hv, ?_, q _ (rel.write eb ea ⟨vs.set (nix k xs.length).toNat vv, upd_same, rs.set rv _⟩)⟩
            obtain ⟨c1, c2, _⟩ := c
            unfold ixN
            rw [← hl]
            unfold nix at c1 c2 ⊢
            by_cases hk : 0 ≤ k
            · simp only [hk, if_true] at c1 c2 ⊢
              rw [if_pos (by omega)]
            · simp only [hk, if_false] at c1 c2 ⊢
              rw [if_pos (by omega)]
          · cases e
        | _ => cases e
      | dic ks vs =>
        obtain ⟨ws, hl, nd, hv, rs⟩ := orep
        dsimp only at e
        cases ek : keyD iD with
        | none => rw [ek] at e; cases e
        | some k =>
          rw [ek] at e
          dsimp only at e
          split at e
          · rename_i c
            cases e
            obtain ⟨us, q1, q2, q3, q4⟩ := put_rep (k := k) hl nd rs rv
            have kr := keyD_rep ek ri
            subst kr
            refine .inr ⟨a, _, rfl, DPut.k hv (by rw [zip_len (hl.trans rs.length), ← lineN_eq]; exact c.1), q _ ?_⟩
            rw [q1]
            exact rel.write eb ea ⟨us, q3, q4, upd_same, q2⟩
          · cases e
      | set ks => cases e
      | ins c ns vs => cases e
  | _ => cases e
theorem ps_setiE {o i : Expr} {fo fi : Env → Hb → FV.R FV.D} {q : Pos} (F : Fit L S n px X) (hs : noSl i = true) (hn : noComp e = true) (hv : PE X e (tE L px W fa)) (ho : PE X o (tE L px W fo)) (hi : PE X i (tE L px W fi)) :
    PS X (.Assign [.Subscript o i q] e pos) (tSs L px W fun σ h => fromR (fa σ h) σ fun x h => fromR (fo σ h) σ fun od h => fromR (fi σ h) σ fun id h =>
      match setiB m h od id x with
      | some h' => .nx σ h'
      | none => .st) := by
  have ha : ∀ v, assign (.Subscript o i q) X.env v = (do
      let ov ← holding [v] (eval o X.env)
      let iv ← holding [v, ov] (eval i X.env)
      standAt q
      holding [v, ov, iv] (setItem ov iv v)
      release [v, ov, iv] []) := fun v => by cases i <;> first | rfl | cases hs
  refine (ps_asg hv (pg_sub (t := rSetA) ho hi (set_any F) ha) (swapsSole_of hn) (by rfl) (by rfl)).imp fun D σ H d => ?_
  obtain ⟨ψ, φ, G, σE, h, rel, er, d⟩ := d
  refine ⟨ψ, φ, G, σE, h, rel, er, DenS.from er d fun a h1 φ1 G1 H1 v p1 l1 rel1 r1 d1 => ?_⟩
  refine ⟨ψ, φ1, G1, σE, h1, rel1, er.mono p1 l1, DenS.from (er.mono p1 l1) d1 fun od h2 φ2 G2 H2 ov p2 l2 rel2 r2 d2 => ?_⟩
  refine ⟨ψ, φ2, G2, σE, h2, rel2, (er.mono p1 l1).mono p2 l2, DenS.from ((er.mono p1 l1).mono p2 l2) d2 fun id h3 φ3 G3 H3 iv p3 l3 rel3 r3 d3 => ?_⟩
  cases e : setiB m h3 od id a with
  | none => rw [e] at d3; exact d3.elim
  | some h' =>
    rw [e] at d3
    exact seti_s rel3 (r2.mono p3 l3) r3 ((r1.mono p2 l2).mono p3 l3) e fun H' rel' => d3.next rel' (((er.mono p1 l1).mono p2 l2).mono p3 l3)
end
end FV

set_option maxRecDepth 100000
set_option maxHeartbeats 1000000
/-! raise. -/
namespace FV
open PySem PySem.Spec L2 L2H PyProof.Rows
variable {L : Lw} {S : Ck} {n : Nat}
/-- an __init__ with one field: self.f = x -/
def spI (C : Addr) (f : Str) : Sp := fun vs H Q E => ∃ a v, vs = [.ref a, v] ∧ H a = some (exo a C none) ∧ ∀ dx, H dx = none → dx ≠ a → Q .non (upd (upd H dx (exd dx [(f, v)])) a (exo a C (some dx)))
/-- a class whose errors have one field -/
structure Xc1 (L : Lw) (C : Addr) (f : Str) : Prop where
  T : OexC L.K C
  ini : ∃ fI fd ps, PySem.W.findIn L.K (.ref C) "__init__" = some (some (.ref fI)) ∧ PySem.W.typeIn L.K (.ref fI) = some (.type "function") ∧ FnOk L.P L.w L.K L.mg L.base (CXn L) 1 fI fd ps (spI C f) ∧ Binds L.K fd ps []
/-- a class whose errors have none -/
structure Xc0 (L : Lw) (C : Addr) : Prop where
  keep : PySem.W.keepIn L.K (.ref C) = true
  ex : PySem.W.subIn L.K (.ref C) (.type "BaseException") = some true
  ty : PySem.W.typeIn L.K (.ref C) = some (.type "type")
  base : ∃ B newId initId bmB, ExcBaseFacts B newId initId bmB ∧ PySem.W.excIn L.K C bmB newId = true
section
variable {X : Cx} {W : WX} {m : Nat} {e x y tg : Expr} {es : List Expr} {p p2 pos pos' : Pos} {ta : TA}
theorem madeN {pins : List (Addr × Obj)} {σ : L2.St} {H1 H2 : Hp} {Q : XK} {hp hp2 h2 : Heap} {g1 g2 : Array GenState} {d1 d2 : Drawn} {t1 t2 : Nat} {os1 os2 : OsState} {a C d : Addr} {fs : List (Str × V)} (T : Raises X (.ref C)) (I1 : L2.Inv X pins σ H1 ⟨hp, g1, d1, t1, os1⟩)
    (ha : hp.objs.size ≤ a) (k : ∀ b o, hp.get? b = some o → hp2.get? b = some o) (un : Un (frs X.stack) [] (upd H1 a (exo a C none)) H2 hp2 h2) (hok : HOk X.prog X.w H2 h2) (ho : os2 = os1) (hb : AllBare g2)
    (ea : H2 a = some (exo a C (some d))) (ed : H2 d = some (exd d fs)) (hd1 : H1 d = none) (q : Q (.ref C) (some d) (upd (del H2 a) d (.xd fs))) : L2N.MkP X pins σ Q (.ref a) ⟨h2, g2, d2, t2, os2⟩ := by
  obtain ⟨t0, G, J, kG, ge, hoe, na⟩ := mk_end0 (d2 := d2) (t2 := t2) I1 ha k un hok ho hb ea ed hd1
  exact ⟨a, _, _, ⟨G, g2, d2, t2, os2⟩, _, .ref C, some d, rfl, J, kG, ge, hoe, ⟨rfl, rfl, fun vs z => by cases z; rfl⟩, rfl, rfl, na, rfl, hb, T, q⟩
theorem pmkN_oex {cx : Str} {C fI : Addr} {k : Nat} {fd : FuncData} {ps : List Str} {sp : Sp} (T : OexC X.K C) (iC : PySem.W.findIn X.K (.ref C) "__init__" = some (some (.ref fI))) (tI : PySem.W.typeIn X.K (.ref fI) = some (.type "function"))
    (F1 : FnOk X.prog X.w X.K X.mg X.base (L2N.CX X.prog X.w) k fI fd ps sp) (hr : Room (k + 1) X.A) (hb : Binds X.K fd ps []) (tk : L2N.Takes X W) (hg : Gl X cx) (hm : X.mg cx = some (.ref C)) (ha : PA X (e :: es) ta)
    (hdb : (cx == ("__debug__" : Str)) = false) (hn : (e :: es).all noStar = true) : L2N.PMk X (.Call (.Name cx p) (e :: es) [] pos) (tMkO C sp [] ta) := by
  intro pins s σ H Q I h
  have he : starEach (e :: es) X.env = (false, eval e X.env) :: starEach es X.env := by
    simp only [List.all_cons, Bool.and_eq_true] at hn
    exact starEach_ns hn.1
  have hpl : (backTo pos (starEach es X.env)).any (·.1) = false := by
    simp only [List.all_cons, Bool.and_eq_true] at hn
    exact any_ns hn.2
  obtain ⟨nm, q, N, bs, bm, sn, sub, ab, col, dd, k0, k1, k2, k3, k5, hC, hbm⟩ := T.cls
  refine wpAny_Call_Name_kw (ld_glob I hg hm ?_ hdb)
  refine PySem.W.callWith_K (h₀ := X.base) I.ok.mod.kin T.kC (thn (ha.run pos pins s σ H _ I h) fun us s1 ⟨vs, H1, I1, r1, hz, q1⟩ => ⟨I1.kIn, ?_⟩) he hpl
  show wpAny _ _ (call (.ref C) us) _ _ _
  obtain ⟨hp, g, dr, tk1, os⟩ := s1
  have hsz : hp.objs.size ≤ hp.objs.size + 1 := Nat.le_succ _
  have hnn : H1 (hp.objs.size + 1) = none := I1.hok.fresh hsz
  have hq := q1 (hp.objs.size + 1) hnn
  rw [List.append_nil] at hq
  have kk : ∀ b o, hp.get? b = some o → ((hp.push (PySem.W.kdv_tup us)).push (PySem.HandSPX.excO C hp.objs.size)).get? b = some o := fun b o e => Heap.get?_push_of_some _ (Heap.get?_push_of_some _ e)
  have hget : ((hp.push (PySem.W.kdv_tup us)).push (PySem.HandSPX.excO C hp.objs.size)).get? (hp.objs.size + 1) = some (PySem.HandSPX.excO C hp.objs.size) := by heap_get
  have I2 : L2.Inv X pins σ (upd H1 (hp.objs.size + 1) (exo (hp.objs.size + 1) C none)) ⟨(hp.push (PySem.W.kdv_tup us)).push (PySem.HandSPX.excO C hp.objs.size), g, dr, tk1, os⟩ :=
    I1.laid (t' := tk1) (a := hp.objs.size + 1) (o := exo (hp.objs.size + 1) C none) (h' := (hp.push (PySem.W.kdv_tup us)).push (PySem.HandSPX.excO C hp.objs.size)) kk hsz (exo_ok hget)
  have r2 : Vals (V.ref (hp.objs.size + 1) :: vs) (Value.ref (hp.objs.size + 1) :: us) := .cons rfl r1
  have hl : (Value.ref (hp.objs.size + 1) :: us ++ []).length = ps.length := by
    rw [List.append_nil, ← r2.length, F1.len _ _ _ _ hq]
  have hus : us.length ≤ sizeLine := by
    rw [← Paired.length r1, sizeLine_eq]
    omega
  have bb := hb _ (Value.ref (hp.objs.size + 1) :: us) I2.kIn hl
  rw [List.append_nil] at bb
  refine wpAny_call (PySem.HandSPX.call_own F.excBase_ValueError (fun Y => PySem.HandSPX.refsVE_contains Y bm hbm) (I1.kIn _ _ hC) (PySem.W.looks_findIn I1.kIn iC) (fun self => PySem.W.bind_fn I1.kIn self tI) hus
    (codeAny_mono (F1.run _ X.stack _ _ ⟨Value.ref (hp.objs.size + 1) :: us, []⟩ (Value.ref (hp.objs.size + 1) :: us) _ _ (fun _ _ _ => False) (hr.make C us []) (I2.env0.make C us []) bb r2 hq) fun r s' hq' => ?_))
  cases r with
  | error er =>
    obtain ⟨_, _, _, _, _, _, _, _, _, _, _, _, f⟩ := hq'
    exact f.elim
  | ok fl =>
    cases fl with
    | ret u =>
      obtain ⟨v, H2, os2, bare2, un2, hok2, rv, ev, d, fs, ea, ed, hd1, q2⟩ := hq'
      subst ev
      obtain ⟨h2, g2, d2, t2, os'⟩ := s'
      exact ⟨rv, madeN (raises_own T.exC T.tyC) I1 hsz kk un2 hok2 os2 bare2 ea ed hd1 q2⟩
    | next => exact False.elim hq'
    | brk => exact False.elim hq'
    | cont => exact False.elim hq'
theorem ps_raise1 {c f : Nat} {cx : Str} {fx : Env → Hb → FV.R (List FV.D)} (F : Fit L S n none X) (tk : L2N.Takes X W) (N : NmOk L S) (Z : Xc1 L (L.ecl c) (L.fld f)) (hc : S.xn c = some cx) (hg : isGl S.sc cx = true) (hn : noStar e = true) (ha : PA X [e] (tXs L none W fx)) :
    PS X (.Raise (some (.Call (.Name cx p) [e] [] pos)) none pos') (tSs L none W fun σ h => fromR (fx σ h) σ fun xs h => if xs.length = 1 then .ex c [f] xs σ h else .st) := by
  obtain ⟨hm, hd⟩ := N.xn c cx hc
  obtain ⟨fI, fd, ps, i1, i2, i3, i4⟩ := Z.ini
  have T := Z.T
  rw [← F.K] at T i1 i2 i4
  have i3' : FnOk X.prog X.w X.K X.mg X.base (L2N.CX X.prog X.w) 1 fI fd ps (spI (L.ecl c) (L.fld f)) := by rw [F.prog, F.w, F.K, F.mg, F.base]; exact i3
  refine (L2N.ps_raise F.calm tk (pmkN_oex T i1 i2 i3' (F.room.2.mono (by omega)) i4 tk (F.gl _ hg) (by rw [F.mg]; exact hm) ha (beq_eq_false_iff_ne.mpr hd) (by simp [hn]))).imp fun D σ H d => ?_
  obtain ⟨ψ, φ, G, σE, h, rel, er, d⟩ := d
  refine ⟨ψ, φ, G, σE, h, rel, er, DenS.from er d fun xs h1 φ1 G1 H1 vs p1 l1 rel1 r1 d1 => ?_⟩
  by_cases hl : xs.length = 1
  · rw [if_pos hl] at d1
    obtain ⟨a0, rfl⟩ : ∃ a0, xs = [a0] := by
      match xs, hl with
      | [a0], _ => exact ⟨a0, rfl⟩
    simp only [Reps] at r1
    obtain ⟨v, t, rfl, r0, rfl⟩ := r1
    refine ⟨by simp, fun a na => ⟨a, v, rfl, upd_same, fun dx nd ne => ?_⟩⟩
    have nd1 : H1 dx = none := by rw [upd_ne ne] at nd; exact nd
    refine ⟨rfl, dx, [(L.fld f, v)], upd_same, ?_, nd1, ?_⟩
    · rw [upd_ne ne, upd_same]
    have eH : upd (del (upd (upd (upd H1 a (exo a (L.ecl c) none)) dx (exd dx [(L.fld f, v)])) a (exo a (L.ecl c) (some dx))) a) dx (.xd [(L.fld f, v)]) = upd H1 dx (.xd [(L.fld f, v)]) := by
      funext b
      by_cases hb : b = dx
      · rw [hb, upd_same, upd_same]
      · rw [upd_ne hb, upd_ne hb]
        by_cases hb2 : b = a
        · rw [hb2, del_same, na]
        · rw [del_ne hb2, upd_ne hb2, upd_ne hb, upd_ne hb2]
    rw [eH]
    have fr := rel1.fresh nd1
    refine d1 φ1 (upd G1 dx (.xd [(L.fld f, v)])) _ σ (some dx) (List.prefix_refl _) (RLe.upd fr) (rel1.laid nd1) ((er.mono p1 l1).mono (List.prefix_refl _) (RLe.upd fr)) ⟨_, .inl upd_same, fun g z e => ?_⟩
    simp only [List.zip_cons_cons, List.zip_nil_right, List.lookup_cons, List.lookup_nil] at e
    split at e
    · rename_i hgf
      cases e
      rw [beq_iff_eq] at hgf
      subst hgf
      exact ⟨v, by simp [List.lookup], r0.mono (List.prefix_refl _) (RLe.upd fr)⟩
    · cases e
  · rw [if_neg hl] at d1
    exact d1.elim
theorem ps_raise0 {c : Nat} {cx z : Str} {j : Nat} (F : Fit L S n none X) (tk : L2N.Takes X W) (N : NmOk L S) (Z : Xc0 L (L.ecl c)) (hc : S.xn c = some cx) (hg : isGl S.sc cx = true) :
    PS X (.Raise (some (.Call (.Name cx p) [.Constant (.str z) j p2] [] pos)) none pos') (tSs L none W fun σ h => .ex c [] [] σ h) := by
  obtain ⟨hm, hd⟩ := N.xn c cx hc
  obtain ⟨B, newId, initId, bmB, b1, b2⟩ := Z.base
  have k1 := Z.keep
  have k2 := Z.ex
  have k3 := Z.ty
  rw [← F.K] at b2 k1 k2 k3
  refine (L2N.ps_raise F.calm tk (L2N.pmk_own b1 b2 (by rw [F.mg]; exact hm) k1 (raises_own k2 k3) (F.gl _ hg) (beq_eq_false_iff_ne.mpr hd))).imp fun D σ H d => ?_
  obtain ⟨ψ, φ, G, σE, h, rel, er, d⟩ := d
  exact d φ G H σ none (List.prefix_refl _) RLe.refl rel er ⟨rfl, rfl⟩
end
end FV

set_option maxRecDepth 100000
/-! try. -/
namespace FV
open PySem PySem.Spec L2 L2H
variable {L : Lw} {S : Ck} {n : Nat}
/-- the context is a def's own -/
structure FitF (X : Cx) : Prop where
  stk : X.stack = X.env :: X.outer
  frm : X.env.frame = some X.env.locals
section
variable {X : Cx} {W : WX} {m : Nat} {p np pos pos' : Pos}
theorem Fit.tr (F : Fit L S n none X) (pn : List (Addr × Obj)) {xe : Value → Shared → Prop} (hp : PassesOwn (model X.prog X.w) X.A X.env xe) : Fit L S n none (X.tr pn xe) :=
  ⟨F.prog, F.w, F.K, F.mg, F.base, F.N, F.nd, F.vis, F.loc, F.gl, F.cf, F.oloc, F.ocel, F.kind, hp, F.room⟩
theorem Fit.suite (F : Fit L S n none X) {a : Addr} {oe : Obj} {cls : Value} {d : Option Addr} (pn : List (Addr × Obj)) (z : L2N.Zn cls d oe) (hf : ∃ vs, oe.data = .fields vs) : Fit L S n (some (a, oe)) (X.suite a ((a, oe) :: pn)) :=
  ⟨F.prog, F.w, F.K, F.mg, F.base, F.N, F.nd, F.vis, F.loc, F.gl, F.cf, F.oloc, F.ocel, F.kind, PassesOwn.never, ⟨rfl, by
    obtain ⟨vs, e⟩ := hf
    exact ⟨vs, e, z.2.2 vs e⟩⟩, List.mem_cons_self, roomH_mark F.room.2 _⟩
theorem erep_none {px : Px} {φ : List Addr} {G : Hp} {σ : Env} {σV : L2.St} (h : ERep L none φ G σ σV) : ERep L px φ G σ σV := ⟨h.1, fun i s e => by
  obtain ⟨v, e1, r⟩ := h.2 i s e
  cases s with
  | v d => exact ⟨v, e1, r⟩
  | x c ns vs =>
    obtain ⟨q, e2, _⟩ := r
    cases e2⟩
theorem erep_noX {px : Px} {φ : List Addr} {G : Hp} {σ : Env} {σV : L2.St} (h : ERep L px φ G σ σV) (k : noXE σ = true) : ERep L none φ G σ σV := ⟨h.1, fun i s e => by
  obtain ⟨v, e1, r⟩ := h.2 i s e
  cases s with
  | v d => exact ⟨v, e1, r⟩
  | x c ns vs =>
    have := List.all_eq_true.mp k _ (List.mem_of_getElem? e)
    cases this⟩
theorem takesF {X : Cx} : L2N.Takes X WF := takes_F
theorem ps_trE {i c : Nat} {cx nx : Str} {body su : List Stmt} {b₀ : Stmt} {fb fs : Env → Hb → Out} (F : Fit L S n none X) (FF : FitF X) (tk : L2N.Takes X W) (N : NmOk L S) (Z : XcOk L) (hc : S.xn c = some cx) (hg : isGl S.sc cx = true) (hi : S.N[i]? = some nx) (hl : S.sc.names.lookup nx = some .local)
    (hb : ∀ X' W', Fit L S n none X' → FitF X' → L2N.Takes X' W' → PSs X' body (tSs L none W' fb)) (hs : ∀ X' q, Fit L S n (some q) X' → FitF X' → PSs X' (b₀ :: su) (tSs L (some q) WF fs)) :
    PS X (.Try body [.ExceptHandler (some (.Name cx np)) (some nx) (b₀ :: su) pos'] [] [] pos) (tSs L none W fun σ h => match fb σ h with
      | .ex x ns vs σ' h' => if L.T.sub x c then
          match fs (σ'.set i (some (.x x ns vs))) h' with
          | .nx σ' h' => if noXE (σ'.set i none) then .nx (σ'.set i none) h' else .st
          | .rt d h' => .rt d h'
          | _ => .st
        else .ex x ns vs σ' h'
      | o => o) := by
  obtain ⟨hm, hd⟩ := N.xn c cx hc
  have nam : L2.Names X cx (.ref (L.ecl c)) := ⟨F.gl _ hg, beq_eq_false_iff_ne.mpr hd, .inl (by rw [F.mg]; exact hm)⟩
  refine (L2N.ps_try_as (tb := fun W' => tSs L none W' fb) (ts := fun a cls d D σ H => ∀ oe, L2N.Zn cls d oe → (∃ vs, oe.data = .fields vs) → tSs L (some (a, oe)) WF fs D σ H) (Wout := W) (i := i) FF.stk FF.frm (by rw [F.N]; exact F.nd) (by rw [F.N]; exact hi) (F.oloc _ hl) nam tk
    (fun W' pn xe tk' pw => hb _ W' (F.tr pn pw) ⟨FF.stk, FF.frm⟩ tk') (fun a oe cls d pn z hf => (hs _ (a, oe) (F.suite pn z hf) ⟨FF.stk, FF.frm⟩).imp fun D σ H t => t oe z hf)).imp fun D σV H d => ?_
  obtain ⟨ψ, φ, G, σ, h, rel, er, d⟩ := d
  refine ⟨ψ, φ, G, σ, h, rel, er, ?_⟩
  dsimp only at d
  cases e : fb σ h with
  | nx σ1 h1 => rw [e] at d; exact d
  | rt v h1 => rw [e] at d; exact d
  | st => rw [e] at d; exact d
  | ex x ns vs σ1 h1 =>
    rw [e] at d
    dsimp only at d
    refine fun φ1 G1 H1 σV1 dd p1 l1 rel1 er1 xr => ⟨L.T.sub x c, by rw [F.K]; exact Z.exm x c, fun yes a na oe z hf => ?_, fun no => ?_⟩
    · rw [if_pos yes] at d
      refine ⟨ψ, φ1, G1, σ1.set i (some (.x x ns vs)), h1, rel1, (erep_none er1).set (s := .x x ns vs) (v := .ref a) ⟨(a, oe), rfl, rfl, z.1, by rw [z.2.1]; exact xr⟩, ?_⟩
      cases e2 : fs (σ1.set i (some (.x x ns vs))) h1 with
      | nx σ2 h2 =>
        rw [e2] at d
        dsimp only at d
        by_cases nX : noXE (σ2.set i none) = true
        · rw [if_pos nX] at d
          exact fun φ2 G2 H2 σV2 p2 l2 rel2 er2 => d φ2 G2 H2 _ (p1.trans p2) (l1.trans l2) rel2 (erep_noX er2.unset nX)
        · rw [if_neg nX] at d
          exact d.elim
      | rt v h2 =>
        rw [e2] at d
        exact fun φ2 G2 H2 u p2 l2 rel2 r2 => d φ2 G2 H2 u (p1.trans p2) (l1.trans l2) rel2 r2
      | ex _ _ _ _ _ => rw [e2] at d; exact d.elim
      | st => rw [e2] at d; exact d.elim
    · rw [if_neg (by rw [no]; decide)] at d
      exact d φ1 G1 H1 σV1 dd p1 l1 rel1 er1 xr
end
end FV

set_option maxRecDepth 100000
/-! The checker for statements, and that it is right. -/
namespace FV
open PySem PySem.Spec L2 L2H
variable {L : Lw} {S : Ck} {n : Nat}
/-- what can be raised -/
structure Rs (L : Lw) (S : Ck) : Prop where
  x0 : ∀ c, S.xk c = some none → Xc0 L (L.ecl c) ∧ (L.T.exn c).1 = []
  x1 : ∀ c f, S.xk c = some (some f) → Xc1 L (L.ecl c) (L.fld f) ∧ L.T.exn c = ([f], 1)
def sameLine (a b : Pos) : Bool := a.line == b.line
def bindsIn (sc : Scope) (y : Str) : Bool := sc.names.any fun (n, k) => n == y && (k == .local || k == .cell)
/-- name = a comprehension, on one line -/
def swLc (S : Ck) (y : Str) (py : Pos) : Expr → Bool
  | .ListComp _ _ sc p => (S.sc.names.lookup y == some .local) && sameLine py p && !bindsIn sc y
  | .DictComp _ _ _ sc p => (S.sc.names.lookup y == some .local) && sameLine py p && !bindsIn sc y
  | _ => false
mutual
def chkS (S : Ck) : Sm → Stmt → Bool
  | .expr e, st => match st with
    | .Expr x _ => noComp x && chkE S e x
    | _ => false
  | .set i e, st => match st with
    | .Assign [.Name z pz] x _ => (S.N[i]? == some z) && chkE S e x && ((noComp x && isLoc S.sc z) || swLc S z pz x)
    | _ => false
  | .unp is e, st => match st with
    | .Assign [.Tuple es k q] x _ => chkT S is (.Tuple es k q) && noComp x && noTup x && decide (2 ≤ is.length) && chkE S e x
    | _ => false
  | .seti o i v, st => match st with
    | .Assign [.Subscript x y _] z _ => noSl y && noComp z && chkE S o x && chkE S i y && chkE S v z
    | _ => false
  | .setf _ _ _, _ => false
  | .ret e, st => match st with
    | .Return (some x) _ => chkE S e x
    | .Return none _ => (match e with | .non => true | _ => false)
    | _ => false
  | .raise c as, st => match st with
    | .Raise (some (.Call (.Name cx _) [x] [] _)) none _ => (S.xn c == some cx) && isGl S.sc cx && noStar x && (match S.xk c with
        | some none => (match x with
          | .Constant (.str _) _ _ => true
          | _ => false) && (match as with
          | .cons (.str _) .nil => true
          | _ => false)
        | some (some _) => chkXs S as [x]
        | none => false)
    | _ => false
  | .ite t a b, st => match st with
    | .If x ss us _ => chkQ S t x && chkSs S a ss && chkSs S b us
    | _ => false
  | .whl t b, st => match st with
    | .While x ss [] _ => chkQ S t x && chkSs S b ss
    | _ => false
  | .for tg it b, st => match st with
    | .For t x ss [] _ => chkSrc S it x && chkT S tg t && noSet x && chkSs S b ss
    | _ => false
  | .tr b hs, st => match hs with
    | .cons c i s .nil => match st with
      | .Try body [.ExceptHandler (some (.Name cx _)) (some nx) (b0 :: su) _] [] [] _ => (S.xn c == some cx) && isGl S.sc cx && (S.N[i]? == some nx) && (S.sc.names.lookup nx == some .local) && chkSs S b body && chkSs S s (b0 :: su)
      | _ => false
    | _ => false
  | .pass, st => match st with
    | .Pass _ => true
    | .Expr (.Constant (.str _) _ _) _ => true
    | _ => false
def chkSs (S : Ck) : Sms → List Stmt → Bool
  | .nil, ss => match ss with
    | [] => true
    | _ => false
  | .cons a r, ss => match ss with
    | st :: ss => chkS S a st && chkSs S r ss
    | [] => false
end
def PSd (L : Lw) (S : Ck) (n : Nat) (is : Sm) (st : Stmt) : Prop := ∀ X px m W, Fit L S n px X → FitF X → L2N.Takes X W → PS X st (tSs L px W (evS (cfN L.T n px.isSome m) is))
def PSsd (L : Lw) (S : Ck) (n : Nat) (is : Sms) (st : List Stmt) : Prop := ∀ X px m W, Fit L S n px X → FitF X → L2N.Takes X W → PSs X st (tSs L px W (evSs (cfN L.T n px.isSome m) is))
theorem ps_vac {X : Cx} {px : Px} {W : WX} {st : Stmt} {f : Env → Hb → Out} (h : ∀ σ h, f σ h = .st) : PS X st (tSs L px W f) := ⟨fun pins s σ H D I d => by
  obtain ⟨ψ, φ, G, σE, h1, rel, er, d⟩ := d
  rw [h] at d
  exact d.elim⟩
theorem ps_docE {X : Cx} {px : Px} {W : WX} {z : Str} {j : Nat} {p q : Pos} : PS X (.Expr (.Constant (.str z) j p) q) (tSs L px W fun σ h => .nx σ h) := ps_doc.imp fun D σ H d => by
  obtain ⟨ψ, φ, G, σE, h, rel, er, d⟩ := d
  exact d.next rel er
section
variable (C : CallsOk L n)
include C
theorem set_comp {X : Cx} {px : Px} {m : Nat} {W : WX} {i : Nat} {z : Str} {pz q : Pos} {ie : Ex} {e : Expr} (g : Gd L S) (F : Fit L S n px X) (tk : L2N.Takes X W) (hi : S.N[i]? = some z) (hc : chkE S ie e = true) (hw : swLc S z pz e = true) :
    PS X (.Assign [.Name z pz] e q) (tSs L px W fun σ h => fromR (evE (cfN L.T n px.isSome m) ie σ h) σ fun d h => .nx (σ.set i (some (.v d))) h) := by
  unfold swLc at hw
  split at hw
  · rename_i x0 gs sc p
    simp only [Bool.and_eq_true, beq_iff_eq, Bool.not_eq_true'] at hw
    obtain ⟨⟨w1, w2⟩, w3⟩ := hw
    cases ie with
    | lc b own tg it c e0 =>
      simp only [chkE] at hc
      split at hc
      · rename_i x t i0 cs sc' hv
        simp only [Bool.and_eq_true] at hc
        obtain ⟨⟨⟨⟨⟨h1, h2⟩, h3⟩, h4⟩, h5⟩, h6⟩ := hc
        obtain ⟨hs, p', ee⟩ := viewL_ok hv
        cases ee
        cases px with
        | some q => exact ps_vac fun σ h => by simp [evE, cfN, cfOf]
        | none =>
          have src := chkSrc_ok C it g h2 X none m W t F tk
          have key := ps_setLcE (b := b) (W := W) (pos := p) (spos := q) (own := ownOf S own) (tgs := tg) (ifs := cs) (fc := evT (cfN L.T n false m) c) (fe := evE (cfN L.T n false m) e0) F hi w1 w2 w3 h1 src h3 (by rw [own_map]; intro i hi; simpa using List.all_eq_true.mp h4 i hi) (fun X' F' tk' => ?_) (fun X' F' tk' => chkE_ok C e0 (g.sc sc) h6 X' none m WF F' tk') hs
          · rw [own_map] at key
            exact key.imp fun D σ H d => asg_name d
          · split at h5
            · cases isOne_iff h5
              exact pts_nilE
            · exact pts_one (chkQ_ok C c (g.sc sc) h5 X' none m WF F' tk')
            · cases h5
      · cases hc
    | var i => simp [chkE, slotOk] at hc
    | op1 o a => simp [chkE, viewA, viewLK, view1] at hc
    | op2 o a b => simp [chkE, view2] at hc
    | op3 o a b c => simp [chkE, view3] at hc
    | cmp o a b => simp [chkE, viewC] at hc
    | cmp3 o p a b c => simp [chkE, viewC3] at hc
    | and a b => simp [chkE, viewB] at hc
    | or a b => simp [chkE, viewB] at hc
    | not a => simp [chkE, viewN] at hc
    | ite a b c => simp [chkE, viewI] at hc
    | call f as => simp [chkE, viewCall] at hc
    | dc b own tg it c k e => simp [chkE, viewD] at hc
    | _ => simp [chkE] at hc
  · rename_i k0 x0 gs sc p
    simp only [Bool.and_eq_true, beq_iff_eq, Bool.not_eq_true'] at hw
    obtain ⟨⟨w1, w2⟩, w3⟩ := hw
    cases ie with
    | dc b own tg it c k0 e0 =>
      simp only [chkE] at hc
      split at hc
      · rename_i k x t i0 cs sc' hv
        simp only [Bool.and_eq_true] at hc
        obtain ⟨⟨⟨⟨⟨⟨h1, h2⟩, h3⟩, h4⟩, h5⟩, h6⟩, h7⟩ := hc
        obtain ⟨hs, p', ee⟩ := viewD_ok hv
        cases ee
        cases px with
        | some q => exact ps_vac fun σ h => by simp [evE, cfN, cfOf]
        | none =>
          have src := chkSrc_ok C it g h2 X none m W t F tk
          have key := ps_setDcE (b := b) (W := W) (pos := p) (spos := q) (own := ownOf S own) (tgs := tg) (ifs := cs) (fc := evT (cfN L.T n false m) c) (fk := evE (cfN L.T n false m) k0) (fe := evE (cfN L.T n false m) e0) F hi w1 w2 w3 h1 src h3 (by rw [own_map]; intro i hi; simpa using List.all_eq_true.mp h4 i hi) (fun X' F' tk' => ?_)
            (fun X' F' tk' => chkE_ok C k0 (g.sc sc) h6 X' none m WF F' tk') (fun X' F' tk' => chkE_ok C e0 (g.sc sc) h7 X' none m WF F' tk') hs
          · rw [own_map] at key
            exact key.imp fun D σ H d => asg_name d
          · split at h5
            · cases isOne_iff h5
              exact pts_nilE
            · exact pts_one (chkQ_ok C c (g.sc sc) h5 X' none m WF F' tk')
            · cases h5
      · cases hc
    | var i => simp [chkE, slotOk] at hc
    | op1 o a => simp [chkE, viewA, viewLK, view1] at hc
    | op2 o a b => simp [chkE, view2] at hc
    | op3 o a b c => simp [chkE, view3] at hc
    | cmp o a b => simp [chkE, viewC] at hc
    | cmp3 o p a b c => simp [chkE, viewC3] at hc
    | and a b => simp [chkE, viewB] at hc
    | or a b => simp [chkE, viewB] at hc
    | not a => simp [chkE, viewN] at hc
    | ite a b c => simp [chkE, viewI] at hc
    | call f as => simp [chkE, viewCall] at hc
    | lc b own tg it c e => simp [chkE, viewL] at hc
    | _ => simp [chkE] at hc
  · cases hw
mutual
theorem chkS_ok : ∀ (is : Sm) {S : Ck} {st : Stmt}, Gd L S → Rs L S → chkS S is st = true → PSd L S n is st
  | .expr e, S, st, g, R, h => fun X px m W F FF tk => by
    simp only [chkS] at h
    split at h
    · simp only [Bool.and_eq_true] at h
      exact ps_exprE h.1 (chkE_ok C e g h.2 X px m W F tk)
    · cases h
  | .set i e, S, st, g, R, h => fun X px m W F FF tk => by
    simp only [chkS] at h
    split at h
    · simp only [Bool.and_eq_true, Bool.or_eq_true, beq_iff_eq] at h
      obtain ⟨⟨h1, h2⟩, h3⟩ := h
      rcases h3 with ⟨h3, h4⟩ | h3
      · exact ps_setE F h1 h4 h3 (chkE_ok C e g h2 X px m W F tk)
      · exact set_comp C g F tk h1 h2 h3
    · cases h
  | .unp is e, S, st, g, R, h => fun X px m W F FF tk => by
    simp only [chkS] at h
    split at h
    · simp only [Bool.and_eq_true, decide_eq_true_eq] at h
      obtain ⟨⟨⟨⟨h1, h2⟩, h3⟩, h4⟩, h5⟩ := h
      cases px with
      | none => exact ps_unpE F h1 h2 h3 h4 (chkE_ok C e g h5 X none m W F tk)
      | some q => exact ps_vac fun σ h => by simp [evS, cfN, cfOf]
    · cases h
  | .seti o i v, S, st, g, R, h => fun X px m W F FF tk => by
    simp only [chkS] at h
    split at h
    · simp only [Bool.and_eq_true] at h
      obtain ⟨⟨⟨⟨h1, h2⟩, h3⟩, h4⟩, h5⟩ := h
      exact ps_setiE F h1 h2 (chkE_ok C v g h5 X px m W F tk) (chkE_ok C o g h3 X px m W F tk) (chkE_ok C i g h4 X px m W F tk)
    · cases h
  | .setf _ _ _, S, st, g, R, h => by simp [chkS] at h
  | .ret e, S, st, g, R, h => fun X px m W F FF tk => by
    simp only [chkS] at h
    split at h
    · exact ps_retE (chkE_ok C e g h X px m W F tk)
    · split at h
      · exact ps_retNE
      · cases h
    · cases h
  | .raise c as, S, st, g, R, h => fun X px m W F FF tk => by
    simp only [chkS] at h
    split at h
    · rename_i cx _ x _ _
      simp only [Bool.and_eq_true, beq_iff_eq] at h
      obtain ⟨⟨⟨h1, h2⟩, h3⟩, h4⟩ := h
      cases px with
      | some q => exact ps_vac fun σ h => by simp [evS, cfN, cfOf]
      | none =>
        split at h4
        · rename_i hk
          obtain ⟨Z, en⟩ := R.x0 c hk
          simp only [Bool.and_eq_true] at h4
          obtain ⟨h4, h5⟩ := h4
          split at h4
          · split at h5
            · have ev : ∀ (y : Cs) σ h, evS (cfN L.T n (Option.isSome (none : Px)) m) (.raise c (.cons (.str y) .nil)) σ h = .ex c [] [] σ h := fun y σ h => by
                simp [evS, cfN, cfOf, evXs, evE, en]
              exact (ps_raise0 F tk g.N Z h1 h2).imp fun D σ H d => by
                obtain ⟨ψ, φ, G, σE, h, rel, er, d⟩ := d
                exact ⟨ψ, φ, G, σE, h, rel, er, by rw [ev] at d; exact d⟩
            · cases h5
          · cases h4
        · rename_i f hk
          obtain ⟨Z, en⟩ := R.x1 c f hk
          refine (ps_raise1 F tk g.N Z h1 h2 h3 (chkXs_ok C as g h4 X none m W F tk)).imp fun D σ H d => ?_
          obtain ⟨ψ, φ, G, σE, h, rel, er, d⟩ := d
          refine ⟨ψ, φ, G, σE, h, rel, er, ?_⟩
          have ev : evS (cfN L.T n (Option.isSome (none : Px)) m) (.raise c as) σE h = fromR (evXs (cfN L.T n (Option.isSome (none : Px)) m) as σE h) σE fun xs h => if xs.length = 1 then .ex c [f] xs σE h else .st := by
            simp only [evS]
            show (if false = true then Out.st else _) = _
            rw [if_neg (by decide)]
            congr 1
            funext xs h
            show (if (L.T.exn c).2 = xs.length ∨ (L.T.exn c).1 = [] then Out.ex c (L.T.exn c).1 (if (L.T.exn c).1 = [] then [] else xs) σE h else .st) = _
            rw [en]
            simp [eq_comm]
          rw [ev] at d
          exact d
        · cases h4
    · cases h
  | .ite t a b, S, st, g, R, h => fun X px m W F FF tk => by
    simp only [chkS] at h
    split at h
    · simp only [Bool.and_eq_true] at h
      exact ps_ifE (chkQ_ok C t g h.1.1 X px m W F tk) (chkSs_ok a g R h.1.2 X px m W F FF tk) (chkSs_ok b g R h.2 X px m W F FF tk)
    · cases h
  | .whl t b, S, st, g, R, h => fun X px m W F FF tk => by
    simp only [chkS] at h
    split at h
    · simp only [Bool.and_eq_true] at h
      exact ps_whileE F (chkQ_ok C t g h.1 X px m W F tk) (chkSs_ok b g R h.2 X px m W F FF tk)
    · cases h
  | .for tg it b, S, st, g, R, h => fun X px m W F FF tk => by
    simp only [chkS] at h
    split at h
    · simp only [Bool.and_eq_true] at h
      obtain ⟨⟨⟨h1, h2⟩, h3⟩, h4⟩ := h
      cases px with
      | none => exact ps_forE F h2 h3 (chkSrc_ok C it g h1 X none m W _ F tk) (chkSs_ok b g R h4 X none m W F FF tk)
      | some q =>
        cases it with
        | e a => exact ps_vac fun σ h => by simp [evS, cfN, cfOf]
        | rng2 a c => exact ps_vac fun σ h => by simp [evS, cfN, cfOf]
        | rng1 a =>
          match tg, h2 with
          | [], h2 => exact ps_vac fun σ h => by simp [evS, cfN, cfOf]
          | _ :: _ :: _, h2 => exact ps_vac fun σ h => by simp [evS, cfN, cfOf]
          | [i], h2 =>
            simp only [chkSrc] at h1
            split at h1
            · simp only [Bool.and_eq_true, beq_iff_eq] at h1
              obtain ⟨⟨⟨rfl, k2⟩, k3⟩, k4⟩ := h1
              exact ps_forHE F h2 h3 (pi_rng1H F g.M k2 k3 (chkE_ok C a g k4 X (some q) m W F tk)) (chkSs_ok b g R h4 X (some q) m W F FF tk)
            · cases h1
    · cases h
  | .tr b .nil, S, st, g, R, h => by simp [chkS] at h
  | .tr b (.cons _ _ _ (.cons _ _ _ _)), S, st, g, R, h => by simp [chkS] at h
  | .tr b (.cons c i s .nil), S, st, g, R, h => fun X px m W F FF tk => by
    simp only [chkS] at h
    split at h
    · simp only [Bool.and_eq_true, beq_iff_eq] at h
      obtain ⟨⟨⟨⟨⟨h1, h2⟩, h3⟩, h4⟩, h5⟩, h6⟩ := h
      cases px with
      | some q => exact ps_vac fun σ h => by simp [evS, cfN, cfOf]
      | none =>
        refine (ps_trE (fb := evSs (cfN L.T n false m) b) (fs := evSs (cfN L.T n true m) s) F FF tk g.N g.Z h1 h2 h3 h4 (fun X' W' F' FF' tk' => chkSs_ok b g R h5 X' none m W' F' FF' tk') (fun X' q F' FF' => chkSs_ok s g R h6 X' (some q) m WF F' FF' takes_F)).imp fun D σ H d => ?_
        obtain ⟨ψ, φ, G, σE, h, rel, er, d⟩ := d
        refine ⟨ψ, φ, G, σE, h, rel, er, ?_⟩
        simp only [evS, evH] at d
        exact d
    · cases h
  | .pass, S, st, g, R, h => fun X px m W F FF tk => by
    simp only [chkS] at h
    split at h
    · exact ps_passE
    · exact ps_docE
    · cases h
theorem chkSs_ok : ∀ (is : Sms) {S : Ck} {st : List Stmt}, Gd L S → Rs L S → chkSs S is st = true → PSsd L S n is st
  | .nil, S, st, g, R, h => fun X px m W F FF tk => by
    simp only [chkSs] at h
    split at h
    · exact pss_nilE
    · cases h
  | .cons a r, S, st, g, R, h => fun X px m W F FF tk => by
    simp only [chkSs] at h
    split at h
    · simp only [Bool.and_eq_true] at h
      exact pss_consE (chkS_ok a g R h.1 X px m W F FF tk) (chkSs_ok r g R h.2 X px m W F FF tk)
    · cases h
end
end
end FV

set_option maxRecDepth 100000
/-! Leaving a def: what it made stays as it is. -/
namespace FV
open PySem PySem.Spec L2 L2H
variable {L : Lw} {S : Ck} {n : Nat}
section
variable {φ φ' : List Addr} {G G' G2 H : Hp} {h : Hb} {m : Nat}
mutual
theorem Rep.low : ∀ {d : D} {v : V}, Rep L φ G d v → below φ.length d = true
  | .non, _, _ => rfl
  | .bl _, _, _ => rfl
  | .int _, _, _ => rfl
  | .str _, _, _ => rfl
  | .set _, _, _ => rfl
  | .tup xs, v, r => by
    simp only [Rep] at r
    obtain ⟨a, vs, _, _, rs⟩ := r
    exact Reps.low rs
  | .lst xs, v, r => by
    simp only [Rep] at r
    obtain ⟨a, vs, _, _, rs⟩ := r
    exact Reps.low rs
  | .dic ks ds, v, r => by
    simp only [Rep] at r
    obtain ⟨a, vs, _, _, _, _, rs⟩ := r
    exact Reps.low rs
  | .ins c ns ds, v, r => by
    simp only [Rep] at r
    obtain ⟨a, dx, vs, _, _, _, rs⟩ := r
    exact Reps.low rs
  | .box i, v, r => by
    simp only [Rep] at r
    obtain ⟨a, _, e⟩ := r
    exact decide_eq_true (List.getElem?_eq_some_iff.mp e).1
theorem Reps.low : ∀ {ds : List D} {vs : List V}, Reps L φ G ds vs → belows φ.length ds = true
  | [], _, _ => rfl
  | d :: r, vs, h => by
    simp only [Reps] at h
    obtain ⟨v, t, rfl, r1, rs⟩ := h
    simp only [belows, Bool.and_eq_true]
    exact ⟨Rep.low r1, Reps.low rs⟩
end
theorem ORep.low {a : Addr} {ob : Ob} (r : ORep L φ G H a ob) : belowO φ.length ob = true := by
  cases ob with
  | lst xs => obtain ⟨vs, _, rs⟩ := r; exact rs.low
  | dic ks ds => obtain ⟨vs, _, _, _, rs⟩ := r; exact rs.low
  | set ks => rfl
  | ins c ns ds => obtain ⟨dx, vs, _, _, rs⟩ := r; exact rs.low
theorem Rel.low {ψ : List (Addr × HO)} (rel : Rel L ψ φ G H h) : Low h.length h := fun i ob hi e => by
  obtain ⟨a, _, r⟩ := rel.box i ob e
  rw [← rel.len]
  exact r.low
/- only boxes of the first m are met -/
mutual
theorem Rep.cut (p : φ <+: φ') (l : RLe G G') : ∀ {d : D} {v : V}, below φ.length d = true → Rep L φ' G d v → Rep L φ G' d v
  | .non, _, _, r => r
  | .bl _, _, _, r => r
  | .int _, _, _, r => r
  | .str _, _, _, r => r
  | .set _, _, _, r => by
    simp only [Rep] at r ⊢
    obtain ⟨a, e, nd, q⟩ := r
    exact ⟨a, e, nd, l _ _ q⟩
  | .tup xs, v, b, r => by
    simp only [Rep] at r ⊢
    obtain ⟨a, vs, e, q, rs⟩ := r
    exact ⟨a, vs, e, l _ _ q, Reps.cut p l b rs⟩
  | .lst xs, v, b, r => by
    simp only [Rep] at r ⊢
    obtain ⟨a, vs, e, q, rs⟩ := r
    exact ⟨a, vs, e, l _ _ q, Reps.cut p l b rs⟩
  | .dic ks ds, v, b, r => by
    simp only [Rep] at r ⊢
    obtain ⟨a, vs, e, hl, nd, q, rs⟩ := r
    exact ⟨a, vs, e, hl, nd, l _ _ q, Reps.cut p l b rs⟩
  | .ins c ns ds, v, b, r => by
    simp only [Rep] at r ⊢
    obtain ⟨a, dx, vs, e, hl, q, rs⟩ := r
    exact ⟨a, dx, vs, e, hl, l _ _ q, Reps.cut p l b rs⟩
  | .box i, v, b, r => by
    simp only [Rep] at r ⊢
    obtain ⟨a, e, q⟩ := r
    have hi : i < φ.length := of_decide_eq_true b
    obtain ⟨t, rfl⟩ := p
    rw [List.getElem?_append_left hi] at q
    exact ⟨a, e, q⟩
theorem Reps.cut (p : φ <+: φ') (l : RLe G G') : ∀ {ds : List D} {vs : List V}, belows φ.length ds = true → Reps L φ' G ds vs → Reps L φ G' ds vs
  | [], _, _, r => r
  | d :: r, vs, b, h => by
    simp only [Reps] at h ⊢
    simp only [belows, Bool.and_eq_true] at b
    obtain ⟨v, t, e, r1, rs⟩ := h
    exact ⟨v, t, e, Rep.cut p l b.1 r1, Reps.cut p l b.2 rs⟩
end
open Classical in
/-- what was made is read as it stands -/
noncomputable def sealH (G H : Hp) (new : List Addr) : Hp := fun a => if a ∈ new then H a else G a
theorem sealH_in {new : List Addr} {a : Addr} (h : a ∈ new) : sealH G H new a = H a := if_pos h
theorem sealH_out {new : List Addr} {a : Addr} (h : a ∉ new) : sealH G H new a = G a := if_neg h
theorem Rel.sealed {ψ : List (Addr × HO)} (rel : Rel L ψ φ' G H h) (p : φ <+: φ') (lo : Low φ.length h) : RLe G (FV.sealH G H (φ'.drop φ.length)) ∧ Rel L ψ φ (FV.sealH G H (φ'.drop φ.length)) H (h.take φ.length) := by
  obtain ⟨t, rfl⟩ := p
  have ed : (φ ++ t).drop φ.length = t := by simp
  rw [ed]
  have nd := List.nodup_append.mp rel.nd
  have inN : ∀ a ∈ t, G a = none := fun a ha => rel.free a (List.mem_append_right _ ha)
  have le : RLe G (FV.sealH G H t) := by
    refine ⟨fun a u r => ?_, fun a o u r => ?_⟩
    · have : a ∉ t := fun z => by
        have := inN a z
        rcases r with r | ⟨o, r⟩ <;> rw [this] at r <;> cases r
      unfold Rd
      rw [sealH_out this]
      exact r
    · have : a ∉ t := fun z => by rw [inN a z] at r; cases r
      rw [sealH_out this]; exact r
  refine ⟨le, fun a o e => ?_, nd.1, ?_, fun a ha => ?_, fun a ha => rel.there a (List.mem_append_left _ ha), fun q hq => ?_, fun i ob e => ?_⟩
  · by_cases ha : a ∈ t
    · rw [sealH_in ha] at e; exact e
    · rw [sealH_out ha] at e; exact rel.le a o e
  · have := rel.len
    rw [List.length_append] at this
    rw [List.length_take]
    omega
  · rw [sealH_out fun z => nd.2.2 a ha a z rfl]
    exact rel.free a (List.mem_append_left _ ha)
  · obtain ⟨e1, e2, e3⟩ := rel.priv q hq
    refine ⟨e1, fun z => e2 (List.mem_append_left _ z), ?_⟩
    rw [sealH_out fun z => e2 (List.mem_append_right _ z)]
    exact e3
  · have hl := bx_lt e
    rw [List.length_take] at hl
    have hi : i < φ.length := by omega
    rw [bx_take hi] at e
    obtain ⟨a, ea, r⟩ := rel.box i ob e
    have b := lo i ob hi e
    rw [List.getElem?_append_left hi] at ea
    refine ⟨a, ea, ?_⟩
    have p : φ <+: φ ++ t := List.prefix_append _ _
    cases ob with
    | lst xs => obtain ⟨vs, q, rs⟩ := r; exact ⟨vs, q, rs.cut p le b⟩
    | dic ks ds => obtain ⟨vs, hl, nd, q, rs⟩ := r; exact ⟨vs, hl, nd, q, rs.cut p le b⟩
    | set ks => exact r
    | ins c ns ds => obtain ⟨dx, vs, hl, q, rs⟩ := r; exact ⟨dx, vs, hl, q, rs.cut p le b⟩
/- freezing, by what becomes of a box -/
mutual
theorem fzD_rep {g : Nat → Option D} (l : RLe G G2) (hg : ∀ i a d', g i = some d' → φ'[i]? = some a → Rep L φ G2 d' (.ref a)) : ∀ {d d' : D} {v : V}, fzD g d = some d' → Rep L φ' G d v → Rep L φ G2 d' v
  | .non, d', v, e, r => by simp only [fzD, Option.some.injEq] at e; subst e; exact r
  | .bl _, d', v, e, r => by simp only [fzD, Option.some.injEq] at e; subst e; exact r
  | .int _, d', v, e, r => by simp only [fzD, Option.some.injEq] at e; subst e; exact r
  | .str _, d', v, e, r => by simp only [fzD, Option.some.injEq] at e; subst e; exact r
  | .set _, d', v, e, r => by
    simp only [fzD, Option.some.injEq] at e
    subst e
    simp only [Rep] at r ⊢
    obtain ⟨a, e, nd, q⟩ := r
    exact ⟨a, e, nd, l _ _ q⟩
  | .tup xs, d', v, e, r => by
    simp only [fzD, Option.map_eq_some_iff] at e
    obtain ⟨ys, e, rfl⟩ := e
    simp only [Rep] at r ⊢
    obtain ⟨a, vs, e1, q, rs⟩ := r
    exact ⟨a, vs, e1, l _ _ q, fzDs_rep l hg e rs⟩
  | .lst xs, d', v, e, r => by
    simp only [fzD, Option.map_eq_some_iff] at e
    obtain ⟨ys, e, rfl⟩ := e
    simp only [Rep] at r ⊢
    obtain ⟨a, vs, e1, q, rs⟩ := r
    exact ⟨a, vs, e1, l _ _ q, fzDs_rep l hg e rs⟩
  | .dic ks ds, d', v, e, r => by
    simp only [fzD, Option.map_eq_some_iff] at e
    obtain ⟨ys, e, rfl⟩ := e
    simp only [Rep] at r ⊢
    obtain ⟨a, vs, e1, hl, nd, q, rs⟩ := r
    have rs' := fzDs_rep l hg e rs
    exact ⟨a, vs, e1, by rw [hl, rs.length]; exact rs'.length.symm, nd, l _ _ q, rs'⟩
  | .ins c ns ds, d', v, e, r => by
    simp only [fzD, Option.map_eq_some_iff] at e
    obtain ⟨ys, e, rfl⟩ := e
    simp only [Rep] at r ⊢
    obtain ⟨a, dx, vs, e1, hl, q, rs⟩ := r
    have rs' := fzDs_rep l hg e rs
    exact ⟨a, dx, vs, e1, by rw [hl, rs.length]; exact rs'.length.symm, l _ _ q, rs'⟩
  | .box i, d', v, e, r => by
    simp only [fzD] at e
    simp only [Rep] at r
    obtain ⟨a, rfl, ea⟩ := r
    exact hg i a d' e ea
theorem fzDs_rep {g : Nat → Option D} (l : RLe G G2) (hg : ∀ i a d', g i = some d' → φ'[i]? = some a → Rep L φ G2 d' (.ref a)) : ∀ {ds ds' : List D} {vs : List V}, fzDs g ds = some ds' → Reps L φ' G ds vs → Reps L φ G2 ds' vs
  | [], ds', vs, e, r => by simp only [fzDs, Option.some.injEq] at e; subst e; exact r
  | d :: r, ds', vs, e, h => by
    simp only [fzDs] at e
    split at e
    · rename_i y ys e1 e2
      cases e
      simp only [Reps] at h
      obtain ⟨v, t, rfl, r1, rs⟩ := h
      exact Reps.cons (fzD_rep l hg e1 r1) (fzDs_rep l hg e2 rs)
    · cases e
end
theorem fzB_rep {ψ : List (Addr × HO)} (rel : Rel L ψ φ' G H h) (p : φ <+: φ') (l : RLe G (FV.sealH G H (φ'.drop φ.length))) : ∀ (k i : Nat) (a : Addr) (d' : D), fzB φ.length h k i = some d' → φ'[i]? = some a → Rep L φ (FV.sealH G H (φ'.drop φ.length)) d' (.ref a) := by
  have old : ∀ (i : Nat) (a : Addr), i < φ.length → φ'[i]? = some a → Rep L φ (FV.sealH G H (φ'.drop φ.length)) (.box i) (.ref a) := fun i a hi ea => by
    simp only [Rep]
    obtain ⟨t, rfl⟩ := p
    rw [List.getElem?_append_left hi] at ea
    exact ⟨a, rfl, ea⟩
  have inD : ∀ (i : Nat) (a : Addr), ¬ i < φ.length → φ'[i]? = some a → a ∈ φ'.drop φ.length := fun i a hi ea => by
    refine List.mem_of_getElem? (i := i - φ.length) ?_
    rw [List.getElem?_drop, Nat.add_sub_cancel' (by omega)]
    exact ea
  intro k
  induction k with
  | zero =>
    intro i a d' e ea
    simp only [fzB] at e
    split at e
    · rename_i hi; cases e; exact old i a hi ea
    · cases e
  | succ k ih =>
    intro i a d' e ea
    simp only [fzB] at e
    split at e
    · rename_i hi; cases e; exact old i a hi ea
    · rename_i hi
      have ia := inD i a hi ea
      split at e
      · rename_i xs eb
        simp only [Option.map_eq_some_iff] at e
        obtain ⟨ys, e, rfl⟩ := e
        obtain ⟨a', ea', vs, hv, rs⟩ := rel.box i _ eb
        rw [ea] at ea'; cases ea'
        simp only [Rep]
        exact ⟨a, vs, rfl, .inl (by rw [sealH_in ia]; exact hv), fzDs_rep l ih e rs⟩
      · rename_i ks ds eb
        simp only [Option.map_eq_some_iff] at e
        obtain ⟨ys, e, rfl⟩ := e
        obtain ⟨a', ea', vs, hl, nd, hv, rs⟩ := rel.box i _ eb
        rw [ea] at ea'; cases ea'
        have rs' := fzDs_rep l ih e rs
        simp only [Rep]
        exact ⟨a, vs, rfl, by rw [hl, rs.length]; exact rs'.length.symm, nd, .inl (by rw [sealH_in ia]; exact hv), rs'⟩
      · rename_i c ns ds eb
        simp only [Option.map_eq_some_iff] at e
        obtain ⟨ys, e, rfl⟩ := e
        obtain ⟨a', ea', dx, vs, hl, hv, rs⟩ := rel.box i _ eb
        rw [ea] at ea'; cases ea'
        have rs' := fzDs_rep l ih e rs
        simp only [Rep]
        exact ⟨a, dx, vs, rfl, by rw [hl, rs.length]; exact rs'.length.symm, .inl (by rw [sealH_in ia]; exact hv), rs'⟩
      · rename_i ks eb
        cases e
        obtain ⟨a', ea', nd, hv⟩ := rel.box i _ eb
        rw [ea] at ea'; cases ea'
        simp only [Rep]
        exact ⟨a, rfl, nd, .inl (by rw [sealH_in ia]; exact hv)⟩
      · cases e
theorem fzDs_zip {g : Nat → Option D} : ∀ {ns : List Nat} {vs vs' : List D} {f : Nat} {x : D}, fzDs g vs = some vs' → (ns.zip vs').lookup f = some x → ∃ y, (ns.zip vs).lookup f = some y ∧ fzD g y = some x
  | [], vs, vs', f, x, _, e => by simp at e
  | a :: ns, [], vs', f, x, e, e2 => by simp only [fzDs, Option.some.injEq] at e; subst e; simp at e2
  | a :: ns, v :: vs, vs', f, x, e, e2 => by
    simp only [fzDs] at e
    split at e
    · rename_i y ys q1 q2
      cases e
      simp only [List.zip_cons_cons, List.lookup_cons] at e2 ⊢
      split at e2
      · cases e2; exact ⟨v, rfl, q1⟩
      · exact fzDs_zip q2 e2
    · cases e
theorem xrep_fz {g : Nat → Option D} {ns : List Nat} {vs vs' : List D} {d : Option Addr} (l : RLe G G2) (hg : ∀ i a d', g i = some d' → φ'[i]? = some a → Rep L φ G2 d' (.ref a)) (e : fzDs g vs = some vs') (r : XRep L φ' G ns vs d) : XRep L φ G2 ns vs' d := by
  cases d with
  | none =>
    obtain ⟨rfl, rfl⟩ := r
    simp only [fzDs, Option.some.injEq] at e
    exact ⟨rfl, e.symm⟩
  | some a =>
    obtain ⟨fs, q, k⟩ := r
    refine ⟨fs, l _ _ q, fun f x ex => ?_⟩
    obtain ⟨y, e1, e2⟩ := fzDs_zip e ex
    obtain ⟨v, e3, e4⟩ := k f y e1
    exact ⟨v, e3, fzD_rep l hg e2 e4⟩
end
/-- from what the call wishes to what the body wishes -/
theorem exit_ends {px : Px} {ψ : List (Addr × HO)} {φ : List Addr} {G H : Hp} {h : Hb} {mc : Nat} {F : Fn} {o : Out} {Q : VK} {E : XK} (rel : Rel L ψ φ G H h) (st : F.keep = false → OSt h.length h o)
    (d : DenR L ψ (Rep L) (fun c d _ H => E c d H) [] φ G (exitF F.keep (base F mc h) o) Q) : DenS L px ψ (fun c d _ H => E c d H) φ G o { nx := fun _ H' => Q .non H', rt := Q } := by
  unfold base at d
  cases hk : F.keep with
  | true =>
    simp only [hk, if_true] at d
    cases o with
    | nx σ h' => exact fun φ' G' H' σV p l rel' er => d φ' G' H' .non p l rel' (by simp [Rep])
    | rt v h' => exact fun φ' G' H' u p l rel' r => d φ' G' H' u p l rel' r
    | ex c ns vs σ h' =>
      simp only [exitF, if_true] at d
      split at d
      · exact fun φ' G' H' σV dd p l rel' er xr => d φ' G' H' dd p l rel' xr
      · exact d.elim
    | st => exact d.elim
  | false =>
    have st := st hk
    simp only [hk, Bool.false_eq_true, if_false] at d
    rw [← rel.len] at st d
    have lo0 : Low φ.length h := by rw [rel.len]; exact rel.low
    cases o with
    | nx σ h' =>
      simp only [exitF, Bool.false_eq_true, if_false] at d
      intro φ' G' H' σV p l rel' er
      obtain ⟨le, rel2⟩ := rel'.sealed p (lo0.step st)
      exact d φ _ H' .non (List.prefix_refl _) (l.trans le) rel2 (by simp [Rep])
    | rt v h' =>
      simp only [exitF, Bool.false_eq_true, if_false] at d
      split at d
      · rename_i v' ev
        intro φ' G' H' u p l rel' r
        obtain ⟨le, rel2⟩ := rel'.sealed p (lo0.step st)
        exact d φ _ H' u (List.prefix_refl _) (l.trans le) rel2 (fzD_rep le (fzB_rep rel' p le _) ev r)
      · exact d.elim
    | ex c ns vs σ h' =>
      simp only [exitF, Bool.false_eq_true, if_false] at d
      split at d
      · rename_i v' ev
        intro φ' G' H' σV dd p l rel' er xr
        obtain ⟨le, rel2⟩ := rel'.sealed p (lo0.step st)
        exact d φ _ H' dd (List.prefix_refl _) (l.trans le) rel2 (xrep_fz le (fzB_rep rel' p le _) ev xr)
      · exact d.elim
    | st => exact d.elim
end FV

set_option maxRecDepth 100000
set_option maxHeartbeats 1000000
/-! Every def of the program does what the evaluator says, at each depth. -/
namespace FV
open PySem PySem.Spec L2 L2H PyProof.Rows
variable {L : Lw} {S : Ck} {n : Nat}
theorem fn_ofHt {CX : CXT} {P : Program} {w : World} {K : PySem.W.Frag} {mg : Str → Option Value} {base : Heap} {k : Nat} {f : Addr} {name qual : Str} {params : Arguments} {body : List Stmt} {scope : Scope} {dV kV doc pm cdv ct oc : Value} {an od : Option Addr}
    {osl : Array (Option Value)} {N ps : List Str} {sp : Addr × Obj → Sp} (lk : K.lookup f = some ⟨oc, od, .func (PySem.W.fnOf name qual params body scope dV kV doc pm an cdv ct), osl⟩) (hcd : PySem.W.codeIn K cdv qual = true) (S : FnScope N ps scope)
    (len : ∀ p vs H Q E, sp p vs H Q E → vs.length = ps.length)
    (hbody : ∀ (A : Around) (outer : List PySem.Env) (s : Shared) (H : Hp) (vs : List V) (Q : VK) (E : XK) (p : Addr × Obj), Hot1 A p → RoomH k (A.deeper (envOfC qual scope s.heap.objs.size f cdv)) → sp p vs H Q E →
      ∃ t, PSs (cxH CX P w K mg base N qual scope f cdv A outer s H E p) body t ∧ t { nx := fun _ H' => Q .non H', rt := Q } (L2.start N vs) H) :
    FnHt P w K mg base CX (k + 1) f (PySem.W.fnOf name qual params body scope dV kV doc pm an cdv ct) ps sp := by
  refine ⟨len, fun A outer s H args us vs Q E p hr hot hpin e0 hb r q => ?_⟩
  have inK : K.In s.heap := e0.mod.kin.keeps fun b o z => (e0.bs b o z).1
  have nolim : s.heap.NoLimit := e0.mod.nolimit.keeps fun b o z => (e0.bs b o z).1
  have kinds : ∀ y ∈ ps.zip us, scope.names.lookup y.1 = some .local ∨ (scope.names.lookup y.1 = some .cell ∧ ((cellsFrom (s.heap.objs.size + 1) scope.names []).lookup y.1).isSome = true) := fun y hy =>
    (S.par y.1 (List.of_mem_zip hy).1).imp id fun z => ⟨z, PySem.W.cellsFrom_some _ _ _ (.inl z)⟩
  refine codeAny_call_function hr.depth (inK _ _ lk) rfl S.co S.gen rfl (PySem.W.codeRec_of inK hcd) (hb _ _ _ _ (wpAny_newFunctionEnv_cells S.kind kinds fun env he s1 x => ?_))
  subst he
  refine ⟨nolim.keeps x.toInCall.keep, codeAny_func ?_⟩
  obtain ⟨t, ht, tq⟩ := hbody A outer s H vs Q E p hot (hr.deeper _) q
  have I0 : L2.Inv (cxH CX P w K mg base N qual scope f cdv A outer s H E p) [] (L2.start N vs) H s1 := inv_startH S hpin e0 (len _ _ _ _ _ q) r x
  refine wpAny_mono (ht.run [] s1 (L2.start N vs) H _ I0 tq) (fun fl s' z => ?_) fun _ _ z => z
  have done : ∀ {σ' : L2.St} {H' : Hp} {v : V} {u : Value}, L2.Inv (cxH CX P w K mg base N qual scope f cdv A outer s H E p) [] σ' H' s' → RelV v u → Q v H' → CE outer P w H s Q u s' := fun {σ' H' v u} J rv z => ⟨v, H', J.os, J.bare, J.base, J.hok, rv, z⟩
  cases fl with
  | ret u => obtain ⟨v, σ', H', J, rv, z⟩ := z; exact done J rv z
  | next => obtain ⟨σ', H', J, z⟩ := z; exact done (v := V.non) (u := Value.none) J rfl z
  | brk => obtain ⟨_, _, _, z⟩ := z; exact z.elim
  | cont => obtain ⟨_, _, _, z⟩ := z; exact z.elim
/-- a def of the program, as its piece of the language -/
def DefOk (L : Lw) (S : Ck) (f : Nat) (F : Fn) : Prop := ∃ (name qual : Str) (params : Arguments) (body : List Stmt) (scope : Scope) (dV kV doc pm cdv ct oc : Value) (an od : Option Addr) (osl : Array (Option Value)) (N ps : List Str),
  L.K.lookup (L.fa f) = some ⟨oc, od, .func (PySem.W.fnOf name qual params body scope dV kV doc pm an cdv ct), osl⟩ ∧ PySem.W.codeIn L.K cdv qual = true ∧ FnScope N ps scope ∧ Binds L.K (PySem.W.fnOf name qual params body scope dV kV doc pm an cdv ct) ps [] ∧
  PySem.W.keepIn L.K (.ref (L.fa f)) = true ∧ F.np = ps.length ∧ F.ns = N.length ∧ chkSs { S with N := N, sc := scope } F.body body = true
theorem sreps_len {px : Px} {φ : List Addr} {G : Hp} : ∀ {xs : List Sl} {vs : List V}, SReps L px φ G xs vs → xs.length = vs.length
  | [], vs, h => by simp only [SReps] at h; subst h; rfl
  | x :: r, vs, h => by
    simp only [SReps] at h
    obtain ⟨v, t, rfl, _, h⟩ := h
    simp [sreps_len h]
theorem sreps_get {px : Px} {φ : List Addr} {G : Hp} : ∀ {xs : List Sl} {vs : List V} {i : Nat} {s : Sl}, SReps L px φ G xs vs → xs[i]? = some s → ∃ v, vs[i]? = some v ∧ SRep L px φ G s v
  | [], vs, i, s, h, e => by simp at e
  | x :: r, vs, i, s, h, e => by
    simp only [SReps] at h
    obtain ⟨v, t, rfl, h1, h⟩ := h
    cases i with
    | zero => simp at e; subst e; exact ⟨v, rfl, h1⟩
    | succ i => simpa using sreps_get h (by simpa using e)
theorem start_rep {px : Px} {φ : List Addr} {G : Hp} {xs : List Sl} {vs : List V} {N : List Str} (h : SReps L px φ G xs vs) : ERep L px φ G (startE N.length xs) (L2.start N vs) := by
  have hl := sreps_len h
  refine ⟨by simp [startE, L2.start, hl], fun i s e => ?_⟩
  unfold startE at e
  unfold L2.start
  by_cases hi : i < xs.length
  · rw [List.getElem?_append_left (by simpa using hi), List.getElem?_map] at e
    cases ex : xs[i]? with
    | none => rw [ex] at e; cases e
    | some a =>
      rw [ex] at e
      cases e
      obtain ⟨v, e1, r⟩ := sreps_get h ex
      exact ⟨v, by rw [List.getElem?_append_left (by simpa [← hl] using hi), List.getElem?_map, e1]; rfl, r⟩
  · rw [List.getElem?_append_right (by simpa using hi), List.getElem?_replicate] at e
    split at e <;> cases e
theorem fit_of {N ps : List Str} {scope : Scope} {qual : Str} {f : Addr} {cdv : Value} {A : Around} {outer : List PySem.Env} {s : Shared} {H : Hp} {E : XK} (FS : FnScope N ps scope) (hr : Room (n + 2) (A.deeper (envOfC qual scope s.heap.objs.size f cdv))) :
    Fit L { S with N := N, sc := scope } n none (cxOf (CXn L) L.P L.w L.K L.mg L.base N qual scope f cdv A outer s H E) :=
  ⟨rfl, rfl, rfl, rfl, rfl, rfl, FS.nd, fun x h => isVis_iff.mp h, fun x h => ⟨isLoc_iff.mp h, .inl rfl⟩, fun x h => (by simpa [isGl] using h : scope.names.lookup x = some .globalImplicit), fun x h => isCF_iff.mp h, fun x h => h, fun x h => h, FS.kind,
    passes_of (K := fun e s'' => CXn L outer H s E e s'') (E₁ := fun e s'' => CXn L outer H s E e s'') rfl, ⟨rfl, hr⟩⟩
theorem fit_ofH {N ps : List Str} {scope : Scope} {qual : Str} {f : Addr} {cdv : Value} {A : Around} {outer : List PySem.Env} {s : Shared} {H : Hp} {E : XK} {p : Addr × Obj} (FS : FnScope N ps scope) (hot : Hot1 A p) (hr : RoomH (n + 2) (A.deeper (envOfC qual scope s.heap.objs.size f cdv))) :
    Fit L { S with N := N, sc := scope } n (some p) (cxH (CXn L) L.P L.w L.K L.mg L.base N qual scope f cdv A outer s H E p) :=
  ⟨rfl, rfl, rfl, rfl, rfl, rfl, FS.nd, fun x h => isVis_iff.mp h, fun x h => ⟨isLoc_iff.mp h, .inl rfl⟩, fun x h => (by simpa [isGl] using h : scope.names.lookup x = some .globalImplicit), fun x h => isCF_iff.mp h, fun x h => h, fun x h => h, FS.kind,
    passes_of (K := fun e s'' => CXn L outer H s E e s'') (E₁ := fun e s'' => CXn L outer H s E e s'') rfl, ⟨hot, List.mem_singleton.mpr rfl, hr⟩⟩
/-- a call at depth n + 1: the body's ends -/
theorem call_body {px : Px} {f : Nat} {F : Fn} {hot : Bool} {ψ : List (Addr × HO)} {φ : List Addr} {G H : Hp} {mc : Nat} {xs : List Sl} {vs : List V} {h : Hb} {Q : VK} {E : XK} {N : List Str} (hf : L.T.fn f = some F) (rel : Rel L ψ φ G H h) (r : SReps L px φ G xs vs) (hn : F.ns = N.length)
    (d : DenR L ψ (Rep L) (fun c d _ H => E c d H) [] φ G (callN L.T (n + 1) hot mc f xs h) Q) :
    xs.length = F.np ∧ tSs L px (fun c d _ H => E c d H) (evSs (cfN L.T n hot (base F mc h)) F.body) { nx := fun _ H' => Q .non H', rt := Q } (L2.start N vs) H := by
  rw [callN_eq, hf] at d
  dsimp only at d
  obtain ⟨⟨c1, _⟩, d⟩ := DenR.ite d
  refine ⟨c1, ψ, φ, G, startE F.ns xs, h, rel, by rw [hn]; exact start_rep r, exit_ends rel (fun hk => ?_) d⟩
  have b : base F mc h = h.length := by unfold base; rw [hk]; rfl
  have := evSs_st F.body (cfN L.T n hot (base F mc h)) (cfN_ok _ _ _ _) (startE F.ns xs) h (by show base F mc h ≤ _; rw [b]; exact Nat.le_refl _)
  rw [show (cfN L.T n hot (base F mc h)).m = h.length from b] at this
  exact this
theorem good_data {f : Nat} {F : Fn} {name qual : Str} {params : Arguments} {body : List Stmt} {scope : Scope} {dV kV doc pm cdv ct oc : Value} {an od : Option Addr} {osl : Array (Option Value)} {N ps : List Str} (g : Gd L S) (R : Rs L S) (C : CallsOk L n) (hf : L.T.fn f = some F)
    (lk : L.K.lookup (L.fa f) = some ⟨oc, od, .func (PySem.W.fnOf name qual params body scope dV kV doc pm an cdv ct), osl⟩) (hcd : PySem.W.codeIn L.K cdv qual = true) (FS : FnScope N ps scope) (bn : Binds L.K (PySem.W.fnOf name qual params body scope dV kV doc pm an cdv ct) ps [])
    (kp : PySem.W.keepIn L.K (.ref (L.fa f)) = true) (hnp : F.np = ps.length) (hns : F.ns = N.length) (hc : chkSs { S with N := N, sc := scope } F.body body = true) : FnGood L (n + 1) f (PySem.W.fnOf name qual params body scope dV kV doc pm an cdv ct) ps := by
  have g' : Gd L { S with N := N, sc := scope } := ⟨g.M, g.Z, g.kit, ⟨g.N.fn, g.N.xn, g.N.gn⟩, g.fd, g.fk⟩
  have R' : Rs L { S with N := N, sc := scope } := ⟨R.x0, R.x1⟩
  have ok := chkSs_ok C F.body g' R' hc
  refine ⟨?_, ?_, bn, kp⟩
  · refine fn_of (k := n + 2) lk hcd FS (fun vs H Q E q => ?_) fun A outer s H vs Q E hr q => ?_
    · obtain ⟨ψ, φ, G, mc, xs, h, rel, r, d⟩ := q
      rw [← sreps_len r, (call_body (N := N) hf rel r hns d).1, hnp]
    · obtain ⟨ψ, φ, G, mc, xs, h, rel, r, d⟩ := q
      have fit := fit_of (L := L) (S := S) (n := n) (outer := outer) (H := H) (E := E) FS hr
      have tk : L2N.Takes (cxOf (CXn L) L.P L.w L.K L.mg L.base N qual scope (L.fa f) cdv A outer s H E) (fun c d _ H => E c d H) := L2N.takes_of rfl rfl rfl (E₁ := fun e s'' => CXn L outer H s E e s'') rfl
      exact ⟨_, ok _ none (base F mc h) _ fit ⟨rfl, rfl⟩ tk, (call_body hf rel r hns d).2⟩
  · refine fn_ofHt (k := n + 2) lk hcd FS (fun p vs H Q E q => ?_) fun A outer s H vs Q E p hot hr q => ?_
    · obtain ⟨ψ, φ, G, mc, xs, h, rel, r, d⟩ := q
      rw [← sreps_len r, (call_body (N := N) hf rel r hns d).1, hnp]
    · obtain ⟨ψ, φ, G, mc, xs, h, rel, r, d⟩ := q
      have fit := fit_ofH (L := L) (S := S) (n := n) (outer := outer) (H := H) (E := E) FS hot hr
      have tk : L2N.Takes (cxH (CXn L) L.P L.w L.K L.mg L.base N qual scope (L.fa f) cdv A outer s H E p) (fun c d _ H => E c d H) := L2N.takes_of rfl rfl rfl (E₁ := fun e s'' => CXn L outer H s E e s'') rfl
      exact ⟨_, ok _ (some p) (base F mc h) _ fit ⟨rfl, rfl⟩ tk, (call_body hf rel r hns d).2⟩
theorem good_step {f : Nat} {F : Fn} (g : Gd L S) (R : Rs L S) (C : CallsOk L n) (D : DefOk L S f F) (hf : L.T.fn f = some F) : ∃ fd ps, FnGood L (n + 1) f fd ps := by
  obtain ⟨name, qual, params, body, scope, dV, kV, doc, pm, cdv, ct, oc, an, od, osl, N, ps, lk, hcd, FS, bn, kp, hnp, hns, hc⟩ := D
  exact ⟨_, ps, good_data g R C hf lk hcd FS bn kp hnp hns hc⟩
theorem good_zero {f : Nat} {F : Fn} (D : DefOk L S f F) : ∃ fd ps, FnGood L 0 f fd ps := by
  obtain ⟨name, qual, params, body, scope, dV, kV, doc, pm, cdv, ct, oc, an, od, osl, N, ps, lk, hcd, FS, bn, kp, hnp, hns, hc⟩ := D
  exact ⟨_, ps, ⟨⟨fun vs H Q E q => by
    obtain ⟨ψ, φ, G, mc, xs, h, rel, r, d⟩ := q
    exact d.elim, fun A outer s H args us vs Q E _ _ _ _ q => by
    obtain ⟨ψ, φ, G, mc, xs, h, rel, r, d⟩ := q
    exact d.elim⟩, ⟨fun p vs H Q E q => by
    obtain ⟨ψ, φ, G, mc, xs, h, rel, r, d⟩ := q
    exact d.elim, fun A outer s H args us vs Q E p _ _ _ _ _ _ q => by
    obtain ⟨ψ, φ, G, mc, xs, h, rel, r, d⟩ := q
    exact d.elim⟩, bn, kp⟩⟩
/-- all defs, at all depths -/
theorem calls_ok (g : Gd L S) (R : Rs L S) (D : ∀ f F, L.T.fn f = some F → DefOk L S f F) : ∀ n, CallsOk L n
  | 0 => fun f F hf => good_zero (D f F hf)
  | n + 1 => fun f F hf => good_step g R (calls_ok g R D n) (D f F hf) hf
end FV

set_option maxRecDepth 100000
/-! Facts of the whole law, read in one Bool off the part of the heap that the module's names reach. -/
namespace FV
open PySem PySem.Spec PyProof.Rows L2
namespace Hd
def obsB (ok : PySem.W.Frag → Bool) (fn : List He.DefD) (K : PySem.W.Frag) : He.AlD := (ok K && fn.all fun d => d.ok K, fn.map fun d => He.fnW K d.at_)
def SaysB (ok : PySem.W.Frag → Bool) (fn : List He.DefD) (K : PySem.W.Frag) : Prop := obsB ok fn K = He.valD fn
/-- without the lists -/
def noLst (K : PySem.W.Frag) : PySem.W.Frag := K.filter fun p => match p.2.cls with
  | .type c => decide (c ≠ "list")
  | _ => true
theorem look_mem {a : Addr} {o : Obj} : ∀ {l : List (Addr × Obj)}, l.lookup a = some o → (a, o) ∈ l
  | [], e => by cases e
  | (b, u) :: r, e => by
    simp only [List.lookup_cons] at e
    split at e
    · rename_i q
      cases e
      rw [beq_iff_eq] at q
      rw [q]
      exact List.mem_cons_self
    · exact List.mem_cons_of_mem _ (look_mem e)
theorem noLst_in {as : List Addr} {h : Heap} : (noLst (He.frG h.get? as)).In h := fun a o e => by
  have m : (a, o) ∈ He.frG h.get? as := (List.mem_filter.mp (look_mem (l := List.filter _ _) e)).1
  unfold He.frG at m
  obtain ⟨b, _, q⟩ := List.mem_filterMap.mp m
  cases g : h.get? b with
  | none => rw [g] at q; cases q
  | some u =>
    rw [g] at q
    cases q
    exact g
def NoLst (K : PySem.W.Frag) : Prop := ∀ a o, K.lookup a = some o → o.cls ≠ .type "list"
theorem noLst_no {K : PySem.W.Frag} : NoLst (noLst K) := fun a o e z => by
  have q := (List.mem_filter.mp (look_mem (l := List.filter _ _) e)).2
  dsimp only at q
  rw [z] at q
  exact absurd q (by decide)
def obsBG (n : Nat) (ok : PySem.W.Frag → Bool) (fn : List He.DefD) (g : Addr → Option Obj) : He.AlD := obsB ok fn (noLst (He.frG g (He.asD g n)))
def hookB (n : Nat) (ok : PySem.W.Frag → Bool) (fn : List He.DefD) : PySem.W.Hook :=
  ⟨He.AlD, fun s => obsBG n ok fn s.heap.get?, fun _ => He.valD fn, fun _ h => ∃ K : PySem.W.Frag, K.In h ∧ NoLst K ∧ SaysB ok fn K, fun _ _ e => ⟨_, noLst_in, noLst_no, e⟩, fun _ _ _ ⟨K, hK, nl, c⟩ k => ⟨K, PySem.W.Frag.In.keeps hK k, nl, c⟩⟩
theorem obsBG_eq {n : Nat} {ok : PySem.W.Frag → Bool} {fn : List He.DefD} {g : Addr → Option Obj} {s : Shared} (h : ∀ a, g a = s.heap.get? a) : obsBG n ok fn g = (hookB n ok fn).obs s := by
  cases (funext h : g = s.heap.get?)
  rfl
section
variable {ok : PySem.W.Frag → Bool} {fn : List He.DefD} {K : PySem.W.Frag}
theorem SaysB.facts (c : SaysB ok fn K) : ok K = true ∧ ∀ d ∈ fn, d.ok K = true := by
  have z : (ok K && fn.all fun d => d.ok K) = true := congrArg Prod.fst c
  rw [Bool.and_eq_true] at z
  exact ⟨z.1, List.all_eq_true.mp z.2⟩
theorem SaysB.def_ (c : SaysB ok fn K) {d : He.DefD} (h : d ∈ fn) : ∃ fd, FunD K d.name d.qual d.params d.body d.scope (d.dvs K) (d.kws K) (He.fAd K d.at_) fd := by
  obtain ⟨i, hi, e⟩ := List.mem_iff_getElem.mp h
  have z : fn.map (fun d => He.fnW K d.at_) = fn.map He.DefD.val := congrArg Prod.snd c
  have z2 := congrArg (fun l => l[i]?) z
  simp only [List.getElem?_map, List.getElem?_eq_getElem hi, Option.map_some, Option.some.injEq, e] at z2
  exact He.DefD.funD z2 (c.facts.2 d h)
end
/-! ### classes of errors -/
def excB (K : PySem.W.Frag) (C : Addr) : Bool :=
  decide (PySem.W.findIn K (.ref C) "__getattribute__" = some (some (.builtin "BaseException.__getattribute__"))) && decide (PySem.W.findIn K (.ref C) "__getattr__" = some none) && decide (PySem.W.subIn K (.ref C) (.type "BaseException") = some true) && PySem.W.hasDictIn K C &&
  decide (PySem.W.findIn K (.ref C) "__class__" = some (some (.builtin "object.__class__"))) && decide (PySem.W.specialIn K (.builtin "object.__class__") "__get__" = some (some (.builtin "getset_descriptor.__get__"))) && decide (PySem.W.takesIn K (.builtin "object.__class__") = some true) && decide (PySem.W.mroIn K C (.type "object") = some true)
theorem excB_ok {K : PySem.W.Frag} {C : Addr} (h : excB K C = true) : ExcC K C := by
  simp only [excB, Bool.and_eq_true, decide_eq_true_eq] at h
  obtain ⟨⟨⟨⟨⟨⟨⟨h1, h2⟩, h3⟩, h4⟩, h5⟩, h6⟩, h7⟩, h8⟩ := h
  exact ⟨h1, h2, h3, h4, h5, h6, h7, h8⟩
def oexB (K : PySem.W.Frag) (C : Addr) : Bool := (match K.lookup C with
  | some ⟨.type c, _, .cls cd, sl⟩ => decide (c = "type") && (match cd.mro, sl.toList with
    | .ref C' :: bm, [_, _, _, _, some (.builtin n), _] => decide (C' = C) && decide (n = "ValueError.__new__") && !cd.hasDel && cd.hasDict && PySem.HandSPX.refsVE bm
    | _, _ => false)
  | _ => false) && decide (PySem.W.findIn K (.ref C) "__setattr__" = some (some (.builtin "object.__setattr__"))) && decide (PySem.W.subIn K (.ref C) (.type "BaseException") = some true) && decide (PySem.W.typeIn K (.ref C) = some (.type "type")) && PySem.W.keepIn K (.ref C)
theorem oexB_ok {K : PySem.W.Frag} {C : Addr} (h : oexB K C = true) : OexC K C := by
  simp only [oexB, Bool.and_eq_true, decide_eq_true_eq] at h
  obtain ⟨⟨⟨⟨h1, h2⟩, h3⟩, h4⟩, h5⟩ := h
  refine ⟨?_, h2, h3, h4, h5⟩
  split at h1
  · rename_i c dd cd sl ho
    simp only [Bool.and_eq_true, decide_eq_true_eq] at h1
    obtain ⟨rfl, h1⟩ := h1
    split at h1
    · rename_i C' bm k0 k1 k2 k3 n k5 hm hs
      simp only [Bool.and_eq_true, decide_eq_true_eq, Bool.not_eq_true'] at h1
      obtain ⟨⟨⟨⟨rfl, rfl⟩, hdel⟩, hdict⟩, hb⟩ := h1
      obtain ⟨nm, bs, mro, ns, qn, hd, sn, sub, ab, col, del⟩ := cd
      dsimp only at hm hdel hdict
      subst hm hdel hdict
      obtain ⟨l⟩ := sl
      dsimp only at hs
      subst hs
      exact ⟨nm, qn, ns, bs, bm, sn, sub, ab, col, dd, k0, k1, k2, k3, k5, ho, hb⟩
    · cases h1
  · cases h1
/-- a class without an __init__ of its own -/
def x0B (K : PySem.W.Frag) (C : Addr) : Bool := PySem.W.excIn K C He.veBase "ValueError.__new__" && PySem.W.keepIn K (.ref C) && decide (PySem.W.subIn K (.ref C) (.type "BaseException") = some true) && decide (PySem.W.typeIn K (.ref C) = some (.type "type"))
theorem x0B_ok {L : Lw} {C : Addr} (h : x0B L.K C = true) : Xc0 L C := by
  simp only [x0B, Bool.and_eq_true, decide_eq_true_eq] at h
  obtain ⟨⟨⟨h1, h2⟩, h3⟩, h4⟩ := h
  exact ⟨h2, h3, h4, _, _, _, _, PySem.F.excBase_ValueError, h1⟩
/-! ### the built-in types -/
def tys : List Ty := [.int, .bool, .str, .list, .tuple, .dict, .set]
theorem tys_all (t : Ty) : t ∈ tys := by cases t <;> decide
def kitB (K : PySem.W.Frag) : Bool := tys.all fun t => decide (PySem.W.kitOne K (.type "NoneType") (.type (tyN t)) = some false) && tys.all fun u => decide (PySem.W.kitOne K (.type (tyN u)) (.type (tyN t)) = some (decide (u = t) || (decide (u = .bool) && decide (t = .int))))
theorem kitB_ok {K : PySem.W.Frag} (h : kitB K = true) : KitOk K := by
  unfold kitB at h
  rw [List.all_eq_true] at h
  refine ⟨fun t => ?_, fun u t => ?_⟩
  · have := h t (tys_all t)
    simp only [Bool.and_eq_true, decide_eq_true_eq] at this
    exact this.1
  · have := h t (tys_all t)
    simp only [Bool.and_eq_true, List.all_eq_true, decide_eq_true_eq] at this
    exact this.2 u (tys_all u)
/-! ### an __init__ with one field -/
theorem init_ok {L : Lw} {C : Addr} {f x y : Str} {qual nm : Str} {params : Arguments} {scope : Scope} {fd : FuncData} {fI : Addr} {p1 p2 p3 p4 : Pos} (T : OexC L.K C) (nf : PySem.W.findIn L.K (.ref C) f = some none)
    (F : FunD L.K nm qual params [.Assign [.Attribute (.Name x p1) f p2] (.Name y p3) p4] scope [] [] fI fd) (S : FnScope [x, y] [x, y] scope) (hx : (x == ("__debug__" : Str)) = false) (hy : (y == ("__debug__" : Str)) = false) (hx2 : (x == ("__classdict__" : Str)) = false) (hy2 : (y == ("__classdict__" : Str)) = false)
    (vx : Vis scope x) (vy : Vis scope y) : FnOk L.P L.w L.K L.mg L.base (CXn L) 1 fI fd [x, y] (spI C f) := by
  refine F.ok S (fun vs H Q E h => ?_) fun cdv A outer s H vs Q E hr h => ?_
  · obtain ⟨a, v, rfl, _⟩ := h
    rfl
  · obtain ⟨a, v, rfl, ha, k⟩ := h
    refine ⟨_, pss_one (ps_ost (pe_var (i := 0) rfl vx hx hx2) (pe_var (i := 1) rfl vy hy hy2)), ?_⟩
    exact ⟨v, rfl, .ref a, rfl, a, C, rfl, T, nf, .inl ⟨ha, fun dx nd ne => k dx nd ne⟩⟩
end Hd
end FV

set_option maxRecDepth 100000
/-! A law as lists: its defs, its errors, its constants; from the facts to every def at every depth. -/
namespace FV
open PySem PySem.Spec PyProof.Rows L2
namespace Hd
structure Lay where
  fns : List Fn
  fnN : List Str
  glos : List (Str × Int)
  xs : List (Str × List Nat)
  fields : List Str
  subT : Nat → Nat → Bool
def Lay.ix (l : Lay) (c : Nat) : Nat := if c < l.xs.length then c else 0
def Lay.xnm (l : Lay) (c : Nat) : Str := (l.xs.getD (l.ix c) ("", [])).1
def Lay.fdn (l : Lay) (f : Nat) : Str := l.fields.getD f ""
def Lay.fn1 (l : Lay) (f : Nat) : Str := l.fnN.getD f ""
def Lay.T (l : Lay) : Tb where
  fn := fun f => l.fns[f]?
  ini := fun _ => none
  glo := fun g => (l.glos[g]?).map fun q => .int q.2
  sub := fun x c => l.subT (l.ix x) (l.ix c)
  sve := fun _ => true
  exn := fun c => ((l.xs.getD c ("", [])).2, (l.xs.getD c ("", [])).2.length)
def Lay.xk (l : Lay) (c : Nat) : Option (Option Nat) := match l.xs[c]? with
  | some (_, []) => some none
  | some (_, [f]) => some (some f)
  | _ => none
def Lay.S0 (l : Lay) : Ck := ⟨[], default, l.fn1, fun g => (l.glos[g]?).map (·.1), fun c => (l.xs[c]?).map (·.1), fun _ => none, l.fdn, fun f => decide (f < l.fns.length), l.xk⟩
def Lay.lw (l : Lay) (P : Program) (w : World) (K : PySem.W.Frag) (mg : Str → Option Value) (base : Heap) : Lw where
  P := P
  w := w
  K := K
  mg := mg
  base := base
  T := l.T
  cls := fun _ => 0
  ecl := fun c => He.ga K (l.xnm c)
  fld := l.fdn
  fa := fun f => He.ga K (l.fn1 f)
def bltN : List Str := ["len", "str", "int", "list", "all", "any", "max", "min", "sum", "isinstance", "range", "set", "bool", "tuple", "dict", "ValueError"]
def notDbg (x : Str) : Bool := decide (x ≠ ("__debug__" : Str))
def gloB (K : PySem.W.Frag) (x : Str) : Bool := (He.Fa.glo x).ok K && notDbg x
/-- one class of errors -/
def xsB (l : Lay) (K : PySem.W.Frag) (i : Nat) : Bool := gloB K (l.xnm i) && excB K (He.ga K (l.xnm i)) && decide (PySem.W.kitOne K (.ref (He.ga K (l.xnm i))) (.type "ValueError") = some true) &&
  ((((Str.ofString "") :: l.fields : List Str)).all fun f => decide (PySem.W.findIn K (.ref (He.ga K (l.xnm i))) f = some none)) &&
  ((List.range l.xs.length).all fun j => decide (PySem.W.kitOne K (.ref (He.ga K (l.xnm i))) (.ref (He.ga K (l.xnm j))) = some (l.subT i j)) && decide (PySem.W.exmOne K (.ref (He.ga K (l.xnm i))) (.ref (He.ga K (l.xnm j))) = some (l.subT i j))) &&
  (match l.xk i with
    | some none => x0B K (He.ga K (l.xnm i))
    | some (some _) => oexB K (He.ga K (l.xnm i)) && decide (PySem.W.findIn K (.ref (He.ga K (l.xnm i))) "__init__" = some (some (.ref (He.ma K (He.ga K (l.xnm i)) "__init__")))) && decide (PySem.W.typeIn K (.ref (He.ma K (He.ga K (l.xnm i)) "__init__")) = some (.type "function"))
    | none => true)
def Lay.ok (l : Lay) (K : PySem.W.Frag) : Bool := (l.fnN.all fun x => gloB K x) && (bltN.all fun x => (He.Fa.free x).ok K) && (l.glos.all fun q => (He.Fa.int q.1 q.2).ok K && notDbg q.1) && ((List.range l.xs.length).all fun i => xsB l K i) && kitB K && decide (0 < l.xs.length) && decide (l.fnN.length = l.fns.length)
section
variable {l : Lay} {P : Program} {w : World} {K : PySem.W.Frag} {mg : Str → Option Value} {base h : Heap}
theorem ix_lt (hx : 0 < l.xs.length) (c : Nat) : l.ix c < l.xs.length := by unfold Lay.ix; split <;> omega
theorem ix_id {c : Nat} (h : c < l.xs.length) : l.ix c = c := by unfold Lay.ix; rw [if_pos h]
theorem xnm_ix (hx : 0 < l.xs.length) (c : Nat) : l.xnm (l.ix c) = l.xnm c := by unfold Lay.xnm; rw [ix_id (ix_lt hx c)]
theorem xnm_at {c : Nat} {x : Str} (h : (l.xs[c]?).map (·.1) = some x) : l.xnm c = x ∧ c < l.xs.length := by
  cases e : l.xs[c]? with
  | none => rw [e] at h; cases h
  | some q =>
    rw [e] at h
    cases h
    have hc := (List.getElem?_eq_some_iff.mp e).1
    refine ⟨?_, hc⟩
    unfold Lay.xnm
    rw [ix_id hc, List.getD_eq_getElem?_getD, e]
    rfl
theorem xk_lt {c : Nat} {o : Option Nat} (h : l.xk c = some o) : c < l.xs.length := by
  unfold Lay.xk at h
  cases e : l.xs[c]? with
  | none => rw [e] at h; cases h
  | some q => exact (List.getElem?_eq_some_iff.mp e).1
theorem fn1_at {f : Nat} {F : Fn} (he : l.fnN.length = l.fns.length) (h : l.fns[f]? = some F) : l.fn1 f ∈ l.fnN := by
  have hf := (List.getElem?_eq_some_iff.mp h).1
  unfold Lay.fn1
  rw [List.getD_eq_getElem?_getD, List.getElem?_eq_getElem (by omega)]
  exact List.getElem_mem _
structure LayOk (l : Lay) (K : PySem.W.Frag) : Prop where
  fn : ∀ x ∈ l.fnN, gloB K x = true
  free : ∀ x ∈ bltN, (He.Fa.free x).ok K = true
  glo : ∀ q ∈ l.glos, (He.Fa.int q.1 q.2).ok K = true ∧ notDbg q.1 = true
  xs : ∀ i < l.xs.length, xsB l K i = true
  kit : KitOk K
  pos : 0 < l.xs.length
  len : l.fnN.length = l.fns.length
theorem layOk (h : l.ok K = true) : LayOk l K := by
  simp only [Lay.ok, Bool.and_eq_true, List.all_eq_true, decide_eq_true_eq, List.mem_range] at h
  obtain ⟨⟨⟨⟨⟨⟨h1, h2⟩, h3⟩, h4⟩, h5⟩, h6⟩, h7⟩ := h
  exact ⟨h1, h2, h3, h4, kitB_ok h5, h6, h7⟩
theorem gd_of (X : K.In h) (G : h.Ns mainGlobals mg) (o : LayOk l K) : Gd (l.lw P w K mg base) l.S0 := by
  have xs : ∀ c, xsB l K (l.ix c) = true := fun c => o.xs _ (ix_lt o.pos c)
  have un : ∀ c, _ := fun c => by
    have z := xs c
    simp only [xsB, gloB, Bool.and_eq_true, decide_eq_true_eq, List.all_eq_true, List.mem_range, xnm_ix o.pos] at z
    exact z
  refine ⟨⟨fun x hx => He.free_ok X G (o.free x hx)⟩, ⟨fun c => excB_ok (un c).1.1.1.1.2, fun x c => ?_, fun x c => ?_, fun x => (un x).1.1.1.2, fun c f => ?_⟩, o.kit, ⟨fun f F hf => ?_, fun c x hx => ?_, fun g x hx => ?_⟩, fun f => rfl, fun f hf => ?_⟩
  · have z := ((un x).1.2 (l.ix c) (ix_lt o.pos c)).1
    rw [xnm_ix o.pos] at z
    exact z
  · have z := ((un x).1.2 (l.ix c) (ix_lt o.pos c)).2
    rw [xnm_ix o.pos] at z
    exact z
  · refine (un c).1.1.2 _ ?_
    show l.fdn f ∈ (Str.ofString "") :: l.fields
    unfold Lay.fdn
    rw [List.getD_eq_getElem?_getD]
    cases e : l.fields[f]? with
    | none => exact List.mem_cons_self
    | some z => exact List.mem_cons_of_mem _ (List.mem_of_getElem? e)
  · have z := o.fn _ (fn1_at o.len hf)
    simp only [gloB, notDbg, Bool.and_eq_true, decide_eq_true_eq] at z
    exact ⟨He.glo_ok X G z.1, z.2⟩
  · obtain ⟨rfl, hc⟩ := xnm_at hx
    have z := (un c).1.1.1.1.1
    rw [notDbg, decide_eq_true_eq] at z
    exact ⟨He.glo_ok X G z.1, z.2⟩
  · cases e : l.glos[g]? with
    | none =>
      have hx : (l.glos[g]?).map (·.1) = some x := hx
      rw [e] at hx
      cases hx
    | some q =>
      have hx : (l.glos[g]?).map (·.1) = some x := hx
      rw [e] at hx
      cases hx
      obtain ⟨z1, z2⟩ := o.glo q (List.mem_of_getElem? e)
      rw [notDbg, decide_eq_true_eq] at z2
      refine ⟨z2, fun d hd => ?_⟩
      have hd : (l.glos[g]?).map (fun q => D.int q.2) = some d := hd
      rw [e] at hd
      cases hd
      obtain ⟨t, ht⟩ := He.int_ok X G z1
      exact ⟨.int q.2, _, ht, ⟨t, rfl⟩, fun φ G => by simp [Rep]⟩
  · have hf : decide (f < l.fns.length) = true := hf
    rw [decide_eq_true_eq] at hf
    exact ⟨_, List.getElem?_eq_getElem hf⟩
/-- the __init__ of each class with a field -/
abbrev InitOk (l : Lay) (P : Program) (w : World) (K : PySem.W.Frag) (mg : Str → Option Value) (base : Heap) (c f : Nat) : Prop :=
  ∃ fd ps, FnOk P w K mg base (CXn (l.lw P w K mg base)) 1 (He.ma K (He.ga K (l.xnm c)) "__init__") fd ps (spI (He.ga K (l.xnm c)) (l.fdn f)) ∧ Binds K fd ps []
theorem rs_of (o : LayOk l K) (ini : ∀ c f, l.xk c = some (some f) → InitOk l P w K mg base c f) : Rs (l.lw P w K mg base) l.S0 := by
  refine ⟨fun c hc => ?_, fun c f hc => ?_⟩
  · have hc : l.xk c = some none := hc
    have z := o.xs c (xk_lt hc)
    simp only [xsB, Bool.and_eq_true, hc] at z
    refine ⟨x0B_ok (L := l.lw P w K mg base) z.2, ?_⟩
    show (l.xs.getD c ("", [])).2 = []
    unfold Lay.xk at hc
    rw [List.getD_eq_getElem?_getD]
    split at hc
    · rename_i e; rw [e]; rfl
    · cases hc
    · cases hc
  · have hc : l.xk c = some (some f) := hc
    have z := o.xs c (xk_lt hc)
    simp only [xsB, Bool.and_eq_true, hc, decide_eq_true_eq] at z
    obtain ⟨_, ⟨z1, z2⟩, z3⟩ := z
    obtain ⟨fd, ps, i1, i2⟩ := ini c f hc
    refine ⟨⟨oexB_ok z1, _, fd, ps, z2, z3, i1, i2⟩, ?_⟩
    show ((l.xs.getD c ("", [])).2, (l.xs.getD c ("", [])).2.length) = ([f], 1)
    unfold Lay.xk at hc
    rw [List.getD_eq_getElem?_getD]
    split at hc
    · cases hc
    · rename_i e
      cases hc
      rw [e]
      rfl
    · cases hc
end
/-- a call with the script as its one argument -/
theorem law_sp {L : Lw} {n f : Nat} {H : Hp} {a : Addr} {ns : List Int} (nl : NoLst L.K) (hS : SqL L.K H a (ns.map V.int)) {Q : VK} (q : ∀ H', Q (.bl true) H') (hl : ∃ h', callN L.T n false 0 f [.v (.lst (ns.map .int))] [] = .ok (.bl true) h') :
    spN L n f [.ref a] H Q fun _ _ _ => False := by
  obtain ⟨h', e⟩ := hl
  have rd : Rd H a (.lst (ns.map V.int)) := by
    rcases hS with hS | ⟨o, its, k, lk, oc, _⟩
    · exact hS
    · exact absurd oc (nl a o lk)
  let G : Hp := fun b => if b = a then H a else none
  have rdG : Rd G a (.lst (ns.map V.int)) := by
    unfold Rd
    have : G a = H a := if_pos rfl
    rw [this]
    exact rd
  have rs : ∀ ns : List Int, Reps L [] G (ns.map D.int) (ns.map V.int) := fun ns => by
    induction ns with
    | nil => exact Reps.nil
    | cons i r ih => exact Reps.cons (by simp [Rep]) ih
  refine ⟨[], [], G, 0, [.v (.lst (ns.map .int))], [], ⟨fun b o z => ?_, List.nodup_nil, rfl, fun b hb => (by cases hb), fun b hb => (by cases hb), fun p hp => (by cases hp), fun i ob q => (by simp [bx] at q)⟩, ⟨.ref a, [], rfl, ?_, rfl⟩, ?_⟩
  · by_cases hb : b = a
    · have z : G b = some o := z
      rw [show G b = H a from if_pos hb] at z
      rw [hb]
      exact z
    · have z : G b = some o := z
      rw [show G b = none from if_neg hb] at z
      cases z
  · show Rep L [] G (.lst (ns.map .int)) (.ref a)
    simp only [Rep]
    exact ⟨a, _, rfl, rdG, rs ns⟩
  · rw [e]
    exact fun φ' G' H' b _ _ _ r => by
      have z : b = .bl true := by simpa [Rep] using r
      rw [z]
      exact q H'
/-- a promise that lets no error out, in any way of telling errors -/
theorem calmOk {L : Lw} {k : Nat} {f : Addr} {fd : FuncData} {ps : List Str} {sp : Sp} (F : FnOk L.P L.w L.K L.mg L.base (CXn L) k f fd ps sp) : FnOk L.P L.w L.K L.mg L.base CX0 k f fd ps fun vs H Q _ => sp vs H Q fun _ _ _ => False :=
  ⟨fun vs H Q E q => F.len _ _ _ _ q, fun A outer s H args us vs Q E hr e0 hb r q => codeAny_mono (F.run A outer s H args us vs Q _ hr e0 hb r q) fun z s' hz => by
    cases z with
    | error e =>
      obtain ⟨_, _, _, _, _, _, _, _, _, _, _, _, ff⟩ := hz
      exact ff.elim
    | ok fl => cases fl <;> exact hz⟩
theorem room_of {n : Nat} (hn : n ≤ 220) : Room (n + 2) callerA :=
  ⟨rfl, Nat.lt_of_le_of_lt (Nat.add_le_add_right (Nat.add_le_add_left (Nat.mul_le_mul_left 3 (Nat.add_le_add_right hn 2)) _) 5) (by decide : callerA.depth + 3 * (220 + 2) + 5 < recursionLimit), Nat.lt_of_le_of_lt (Nat.add_le_add_right (Nat.add_le_add_left (Nat.mul_le_mul_left 16 (Nat.add_le_add_right hn 2)) _) 200) (by decide : callerA.units + 16 * (220 + 2) + 200 < cLine)⟩
/-- what the law's def promises -/
def spLaw (K : PySem.W.Frag) : Sp := fun vs H Q _ => ∃ (a : Addr) (ns : List Int), vs = [.ref a] ∧ ns.length ≤ 63 ∧ SqL K H a (ns.map V.int) ∧ ∀ H', Q (.bl true) H'
theorem law_ok {L : Lw} {S : Ck} {n f : Nat} {F : Fn} {name qual : Str} {params : Arguments} {body : List Stmt} {scope : Scope} {fd : FuncData} {N ps : List Str} (g : Gd L S) (R : Rs L S) (C : ∀ n, CallsOk L n) (hf : L.T.fn f = some F) (nl : NoLst L.K) (FD : FunD L.K name qual params body scope [] [] (L.fa f) fd) (FS : FnScope N ps scope)
    (hb : ∀ (kV doc pm : Value) (an : Option Addr) (cdv ct : Value) (us : List Value), us.length = ps.length → bindArgs (PySem.W.fnOf name qual params body scope .none kV doc pm an cdv ct) ⟨us, []⟩ = pure (ps.zip us))
    (hnp : F.np = ps.length) (hns : F.ns = N.length) (hc : chkSs { S with N := N, sc := scope } F.body body = true) (hl : ∀ ns : List Int, ns.length ≤ 63 → ∃ h', callN L.T n false 0 f [.v (.lst (ns.map .int))] [] = .ok (.bl true) h') :
    FnOk L.P L.w L.K L.mg L.base CX0 (n + 2) (L.fa f) fd ps (spLaw L.K) := by
  have bn := FD.bindsN hb
  obtain ⟨oc, od, dV, kV, doc, pm, an, cdv, ct, osl, rfl, lk, hcd, _, _⟩ := FD.ex
  cases n with
  | zero =>
    obtain ⟨h', e⟩ := hl [] (by simp)
    cases e
  | succ n =>
    refine (calmOk (good_data g R (C n) hf lk hcd FS bn FD.kp hnp hns hc).calm).imp fun vs H Q E z => ?_
    obtain ⟨a, ns, rfl, h63, hS, q⟩ := z
    exact law_sp nl hS q (hl ns h63)
/-- a def of the program, from its facts -/
theorem defOk_of {L : Lw} {S : Ck} {f : Nat} {F : Fn} {name qual : Str} {params : Arguments} {body : List Stmt} {scope : Scope} {fd : FuncData} {N ps : List Str} (FD : FunD L.K name qual params body scope [] [] (L.fa f) fd) (FS : FnScope N ps scope)
    (hb : ∀ (kV doc pm : Value) (an : Option Addr) (cdv ct : Value) (us : List Value), us.length = ps.length → bindArgs (PySem.W.fnOf name qual params body scope .none kV doc pm an cdv ct) ⟨us, []⟩ = pure (ps.zip us))
    (hnp : F.np = ps.length) (hns : F.ns = N.length) (hc : chkSs { S with N := N, sc := scope } F.body body = true) : DefOk L S f F := by
  have bn := FD.bindsN hb
  obtain ⟨oc, od, dV, kV, doc, pm, an, cdv, ct, osl, rfl, lk, hcd, _, _⟩ := FD.ex
  exact ⟨name, qual, params, body, scope, dV, kV, doc, pm, cdv, ct, oc, an, od, osl, N, ps, lk, hcd, FS, bn, FD.kp, hnp, hns, hc⟩
end Hd
end FV

set_option maxRecDepth 100000
set_option maxHeartbeats 0
namespace K03
section
open FV
def f_is_name : Fn := ⟨1, 2, (.cons (.ite (.or (.not (.op1 (.isTy .str) (.var 0))) (.not (.cmp3 .le .le (.int 1) (.op1 .len (.var 0)) (.glo 0)))) (.cons (.ret (.bl false)) (.nil)) (.nil)) (.cons (.ret (.op1 .all (.lc false [1] [1] (.e (.var 0)) (.bl true) (.cmp3 .le .le (.str [97]) (.var 1) (.str [122]))))) (.nil))), false⟩
def n_is_name : List PySem.Str := ["value", "letter"]
def p_is_name : List PySem.Str := ["value"]
def f_is_tree : Fn := ⟨1, 4, (.cons (.set 1 (.set0 true)) (.cons (.set 2 (.lst true (.cons (.var 0) (.nil)))) (.cons (.whl (.var 2) (.cons (.set 3 (.op1 .pop (.var 2))) (.cons (.ite (.and (.op1 (.isTy .tuple) (.var 3)) (.cmp .eq (.op1 .len (.var 3)) (.int 2))) (.cons (.expr (.op2 .append (.var 2) (.op2 .ix (.var 3) (.int 1)))) (.cons (.expr (.op2 .append (.var 2) (.op2 .ix (.var 3) (.int 0)))) (.nil))) (.cons (.ite (.or (.not (.call 0 (.ex (.var 3) (.nil)))) (.or (.cmp .inn (.var 3) (.var 1)) (.cmp .eq (.op1 .len (.var 1)) (.glo 1)))) (.cons (.ret (.bl false)) (.nil)) (.cons (.expr (.op2 .sadd (.var 1) (.var 3))) (.nil))) (.nil))) (.nil)))) (.cons (.ret (.bl true)) (.nil))))), false⟩
def n_is_tree : List PySem.Str := ["value", "seen", "waiting", "part"]
def p_is_tree : List PySem.Str := ["value"]
def f_parts_of : Fn := ⟨1, 7, (.cons (.ite (.not (.call 1 (.ex (.var 0) (.nil)))) (.cons (.raise 2 (.cons (.str [110, 111, 116, 32, 97, 32, 116, 114, 101, 101]) (.nil))) (.nil)) (.nil)) (.cons (.set 1 (.lst true (.nil))) (.cons (.set 2 (.lst true (.cons (.tup (.cons (.str []) (.cons (.var 0) (.nil)))) (.nil)))) (.cons (.whl (.var 2) (.cons (.unp [3, 4] (.op1 .pop (.var 2))) (.cons (.expr (.op2 .append (.var 1) (.tup (.cons (.var 3) (.cons (.var 4) (.nil)))))) (.cons (.ite (.not (.op1 (.isTy .str) (.var 4))) (.cons (.unp [5, 6] (.var 4)) (.cons (.expr (.op2 .append (.var 2) (.tup (.cons (.op2 .add (.var 3) (.str [49])) (.cons (.var 6) (.nil)))))) (.cons (.expr (.op2 .append (.var 2) (.tup (.cons (.op2 .add (.var 3) (.str [48])) (.cons (.var 5) (.nil)))))) (.nil)))) (.nil)) (.nil))))) (.cons (.ret (.var 1)) (.nil)))))), false⟩
def n_parts_of : List PySem.Str := ["tree", "parts", "waiting", "way", "part", "left", "right"]
def p_parts_of : List PySem.Str := ["tree"]
def f_leaf_names : Fn := ⟨1, 3, (.cons (.ret (.lc false [1, 2] [1, 2] (.e (.call 2 (.ex (.var 0) (.nil)))) (.op1 (.isTy .str) (.var 2)) (.var 2))) (.nil)), false⟩
def n_leaf_names : List PySem.Str := ["tree", "_", "part"]
def p_leaf_names : List PySem.Str := ["tree"]
def f_ways_of : Fn := ⟨1, 3, (.cons (.ret (.dc false [1, 2] [1, 2] (.e (.call 2 (.ex (.var 0) (.nil)))) (.op1 (.isTy .str) (.var 2)) (.var 2) (.var 1))) (.nil)), false⟩
def n_ways_of : List PySem.Str := ["tree", "way", "part"]
def p_ways_of : List PySem.Str := ["tree"]
def f_way_of : Fn := ⟨2, 3, (.cons (.set 2 (.call 4 (.ex (.var 0) (.nil)))) (.cons (.ite (.cmp .notin (.var 1) (.op1 (.list false) (.var 2))) (.cons (.raise 3 (.cons (.var 1) (.nil))) (.nil)) (.nil)) (.cons (.ret (.op2 .ix (.var 2) (.var 1))) (.nil)))), false⟩
def n_way_of : List PySem.Str := ["tree", "writer", "ways"]
def p_way_of : List PySem.Str := ["tree", "writer"]
def f_forks_of : Fn := ⟨1, 3, (.cons (.ret (.lc false [1, 2] [1, 2] (.e (.call 2 (.ex (.var 0) (.nil)))) (.not (.op1 (.isTy .str) (.var 2))) (.var 1))) (.nil)), false⟩
def n_forks_of : List PySem.Str := ["tree", "way", "part"]
def p_forks_of : List PySem.Str := ["tree"]
def f_check_fork : Fn := ⟨2, 2, (.cons (.ite (.cmp .notin (.var 1) (.call 6 (.ex (.var 0) (.nil)))) (.cons (.raise 5 (.cons (.var 1) (.nil))) (.nil)) (.nil)) (.nil)), false⟩
def n_check_fork : List PySem.Str := ["tree", "fork"]
def p_check_fork : List PySem.Str := ["tree", "fork"]
def f_height_of : Fn := ⟨1, 3, (.cons (.ret (.op1 .max1 (.lc false [1, 2] [1, 2] (.e (.call 2 (.ex (.var 0) (.nil)))) (.bl true) (.op1 .len (.var 1))))) (.nil)), false⟩
def n_height_of : List PySem.Str := ["tree", "way", "_"]
def p_height_of : List PySem.Str := ["tree"]
def f_names_beneath : Fn := ⟨3, 6, (.cons (.expr (.call 7 (.ex (.var 0) (.ex (.var 1) (.nil))))) (.cons (.set 3 (.op2 .add (.var 1) (.op1 .strI (.var 2)))) (.cons (.set 4 (.call 4 (.ex (.var 0) (.nil)))) (.cons (.ret (.lc false [5] [5] (.e (.var 4)) (.op2 .starts (.op2 .ix (.var 4) (.var 5)) (.var 3)) (.var 5))) (.nil))))), false⟩
def n_names_beneath : List PySem.Str := ["tree", "fork", "side", "child", "ways", "name"]
def p_names_beneath : List PySem.Str := ["tree", "fork", "side"]
def f_law_bag : Fn := ⟨2, 4, (.cons (.set 2 (.op2 .add (.op2 .mod (.op1 .intI (.op1 .sum1 (.op2 .slU (.var 0) (.int 1)))) (.int 1000003)) (.op2 .mul (.int 7919) (.var 1)))) (.cons (.ite (.cmp .lt (.var 1) (.op1 .len (.var 0))) (.cons (.set 2 (.op2 .ix (.var 0) (.var 1))) (.nil)) (.nil)) (.cons (.set 3 (.int 0)) (.cons (.ite (.cmp .ge (.var 2) (.op2 .pow (.int 10) (.int 18))) (.cons (.set 3 (.var 2)) (.nil)) (.nil)) (.cons (.ret (.lst true (.cons (.var 3) (.cons (.op2 .mod (.op1 .intI (.var 2)) (.int 2147483629)) (.cons (.var 1) (.nil)))))) (.nil)))))), true⟩
def n_law_bag : List PySem.Str := ["script", "k", "cell", "rest"]
def p_law_bag : List PySem.Str := ["script", "k"]
def f_law_mixed : Fn := ⟨1, 1, (.cons (.seti (.var 0) (.int 2) (.op2 .add (.op2 .ix (.var 0) (.int 2)) (.int 1))) (.cons (.seti (.var 0) (.int 1) (.op2 .mod (.op1 .intI (.op2 .add (.op2 .add (.op2 .mul (.op2 .ix (.var 0) (.int 1)) (.int 48271)) (.op2 .mul (.op2 .ix (.var 0) (.int 2)) (.int 69621))) (.int 11))) (.int 2147483647))) (.cons (.ret (.op2 .mod (.op1 .intI (.op2 .add (.op2 .mul (.op2 .fdiv (.op2 .ix (.var 0) (.int 1)) (.int 5)) (.op2 .add (.op2 .fdiv (.op2 .ix (.var 0) (.int 1)) (.int 7)) (.int 3))) (.op2 .ix (.var 0) (.int 2)))) (.int 2147483399))) (.nil)))), false⟩
def n_law_mixed : List PySem.Str := ["bag"]
def p_law_mixed : List PySem.Str := ["bag"]
def f_law_draw : Fn := ⟨2, 5, (.cons (.ite (.cmp .gt (.op2 .ix (.var 0) (.int 0)) (.int 0)) (.cons (.set 4 (.op2 .mod (.op1 .intI (.op2 .ix (.var 0) (.int 0))) (.var 1))) (.cons (.seti (.var 0) (.int 0) (.op2 .fdiv (.op2 .ix (.var 0) (.int 0)) (.var 1))) (.cons (.ret (.var 4)) (.nil)))) (.nil)) (.cons (.set 2 (.call 11 (.ex (.var 0) (.nil)))) (.cons (.set 3 (.call 11 (.ex (.var 0) (.nil)))) (.cons (.ret (.op2 .mod (.op2 .fdiv (.op1 .intI (.op2 .add (.op2 .mul (.var 2) (.int 2147483399)) (.var 3))) (.int 16)) (.var 1))) (.nil))))), false⟩
def n_law_draw : List PySem.Str := ["bag", "size", "high", "low", "value"]
def p_law_draw : List PySem.Str := ["bag", "size"]
def f_law_count : Fn := ⟨1, 2, (.cons (.set 1 (.op2 .ix (.tup (.cons (.int 6) (.cons (.int 6) (.cons (.int 6) (.cons (.int 12) (.nil)))))) (.call 12 (.ex (.var 0) (.ex (.int 4) (.nil)))))) (.cons (.ret (.op2 .add (.int 1) (.call 12 (.ex (.var 0) (.ex (.var 1) (.nil)))))) (.nil))), false⟩
def n_law_count : List PySem.Str := ["bag", "most"]
def p_law_count : List PySem.Str := ["bag"]
def f_law_name : Fn := ⟨3, 9, (.cons (.set 3 (.str [97, 98, 99, 100, 101, 102, 103, 104, 105, 106, 107, 108, 109, 110, 111, 112, 113, 114, 115, 116, 117, 118, 119, 120, 121, 122])) (.cons (.set 4 (.call 12 (.ex (.var 0) (.ex (.op2 .mul (.int 8) (.op2 .pow (.int 26) (.int 8))) (.nil))))) (.cons (.set 5 (.op2 .add (.int 1) (.op2 .mod (.op1 .intI (.var 4)) (.int 8)))) (.cons (.set 4 (.op2 .fdiv (.var 4) (.int 8))) (.cons (.set 6 (.str [])) (.cons (.for [7] (.rng1 (.var 5)) (.cons (.set 6 (.op2 .add (.var 6) (.op2 .ix (.var 3) (.op2 .mod (.op1 .intI (.var 4)) (.var 2))))) (.cons (.set 4 (.op2 .fdiv (.var 4) (.var 2))) (.nil)))) (.cons (.set 8 (.op2 .index (.var 3) (.op2 .slL (.var 6) (.op2 .sub (.var 5) (.int 1))))) (.cons (.for [7] (.rng1 (.int 26)) (.cons (.set 6 (.op2 .add (.op2 .slU (.var 6) (.op2 .sub (.var 5) (.int 1))) (.op2 .ix (.var 3) (.op2 .mod (.op2 .add (.var 8) (.var 7)) (.int 26))))) (.cons (.ite (.cmp .notin (.var 6) (.var 1)) (.cons (.ret (.var 6)) (.nil)) (.nil)) (.nil)))) (.cons (.ret (.var 6)) (.nil)))))))))), false⟩
def n_law_name : List PySem.Str := ["bag", "taken", "many", "letters", "number", "size", "name", "k", "last"]
def p_law_name : List PySem.Str := ["bag", "taken", "many"]
def f_law_names : Fn := ⟨2, 5, (.cons (.set 2 (.int 26)) (.cons (.ite (.cmp .eq (.call 12 (.ex (.var 0) (.ex (.int 2) (.nil)))) (.int 1)) (.cons (.set 2 (.int 2)) (.nil)) (.nil)) (.cons (.set 3 (.lst false (.nil))) (.cons (.for [4] (.rng1 (.var 1)) (.cons (.set 3 (.op2 .add (.var 3) (.lst false (.cons (.call 14 (.ex (.var 0) (.ex (.var 3) (.ex (.var 2) (.nil))))) (.nil))))) (.nil))) (.cons (.ret (.var 3)) (.nil)))))), false⟩
def n_law_names : List PySem.Str := ["bag", "count", "many", "names", "k"]
def p_law_names : List PySem.Str := ["bag", "count"]
def f_law_ways : Fn := ⟨2, 6, (.cons (.set 2 (.lst false (.cons (.str []) (.nil)))) (.cons (.set 3 (.call 12 (.ex (.var 0) (.ex (.int 4) (.nil))))) (.cons (.for [4] (.rng1 (.op2 .sub (.var 1) (.int 1))) (.cons (.set 5 (.call 12 (.ex (.var 0) (.ex (.op1 .len (.var 2)) (.nil))))) (.cons (.ite (.cmp .eq (.var 3) (.int 1)) (.cons (.set 5 (.int 0)) (.nil)) (.nil)) (.cons (.ite (.cmp .eq (.var 3) (.int 2)) (.cons (.set 5 (.op2 .sub (.op1 .len (.var 2)) (.int 1))) (.nil)) (.nil)) (.cons (.set 2 (.op2 .add (.op2 .add (.op2 .slU (.var 2) (.var 5)) (.lst false (.cons (.op2 .add (.op2 .ix (.var 2) (.var 5)) (.str [48])) (.cons (.op2 .add (.op2 .ix (.var 2) (.var 5)) (.str [49])) (.nil))))) (.op2 .slL (.var 2) (.op2 .add (.var 5) (.int 1))))) (.nil)))))) (.cons (.ret (.var 2)) (.nil))))), false⟩
def n_law_ways : List PySem.Str := ["bag", "count", "ways", "shape", "k", "at"]
def p_law_ways : List PySem.Str := ["bag", "count"]
def f_law_tree : Fn := ⟨1, 5, (.cons (.ite (.cmp .eq (.op1 .len (.var 0)) (.int 1)) (.cons (.ret (.op2 .ix (.op2 .ix (.var 0) (.int 0)) (.int 1))) (.nil)) (.nil)) (.cons (.set 1 (.lc false [3, 4] [3, 4] (.e (.var 0)) (.cmp .eq (.op2 .slU (.var 3) (.int 1)) (.str [48])) (.tup (.cons (.op2 .slL (.var 3) (.int 1)) (.cons (.var 4) (.nil)))))) (.cons (.set 2 (.lc false [3, 4] [3, 4] (.e (.var 0)) (.cmp .eq (.op2 .slU (.var 3) (.int 1)) (.str [49])) (.tup (.cons (.op2 .slL (.var 3) (.int 1)) (.cons (.var 4) (.nil)))))) (.cons (.ret (.tup (.cons (.call 17 (.ex (.var 1) (.nil))) (.cons (.call 17 (.ex (.var 2) (.nil))) (.nil))))) (.nil))))), false⟩
def n_law_tree : List PySem.Str := ["rows", "left", "right", "way", "name"]
def p_law_tree : List PySem.Str := ["rows"]
def f_law_made : Fn := ⟨2, 3, (.cons (.ret (.call 17 (.ex (.lc false [2] [2] (.rng1 (.op1 .len (.var 1))) (.bl true) (.tup (.cons (.op2 .ix (.var 0) (.var 2)) (.cons (.op2 .ix (.var 1) (.var 2)) (.nil))))) (.nil)))) (.nil)), false⟩
def n_law_made : List PySem.Str := ["ways", "names", "k"]
def p_law_made : List PySem.Str := ["ways", "names"]
def f_law_odd_leaf : Fn := ⟨4, 9, (.cons (.set 4 (.op2 .ix (.str [96, 123, 65, 90, 48, 57, 95, 32, 45, 46]) (.call 12 (.ex (.var 0) (.ex (.int 10) (.nil)))))) (.cons (.set 5 (.call 12 (.ex (.var 0) (.ex (.op2 .add (.op1 .len (.var 1)) (.int 1)) (.nil))))) (.cons (.set 6 (.op2 .slU (.op2 .add (.var 1) (.str [97, 98, 99, 100, 101, 102, 103, 104, 105, 106, 107, 108, 109, 110, 111])) (.op2 .add (.int 9) (.call 12 (.ex (.var 0) (.ex (.int 5) (.nil))))))) (.cons (.set 7 (.call 12 (.ex (.var 0) (.ex (.int 4) (.nil))))) (.cons (.set 8 (.lst false (.cons (.str []) (.cons (.op2 .add (.op2 .add (.op2 .slU (.var 1) (.var 5)) (.var 4)) (.op2 .slL (.var 1) (.var 5))) (.cons (.var 6) (.cons (.op2 .ix (.tup (.cons (.non) (.cons (.int 0) (.cons (.bl true) (.cons (.op2 .pow (.int 10) (.int 20)) (.nil)))))) (.var 7)) (.cons (.op2 .ix (.tup (.cons (.lst false (.nil)) (.cons (.tup (.nil)) (.cons (.dct0 false) (.cons (.tup (.cons (.var 1) (.nil))) (.nil)))))) (.var 7)) (.cons (.op2 .ix (.tup (.cons (.lst false (.cons (.var 1) (.nil))) (.cons (.tup (.cons (.var 1) (.cons (.var 1) (.nil)))) (.cons (.tup (.cons (.var 1) (.cons (.var 2) (.cons (.var 3) (.nil))))) (.cons (.lst false (.cons (.var 1) (.cons (.var 2) (.nil)))) (.nil)))))) (.var 7)) (.nil))))))))) (.cons (.ret (.op2 .ix (.var 8) (.call 12 (.ex (.var 0) (.ex (.int 6) (.nil)))))) (.nil))))))), false⟩
def n_law_odd_leaf : List PySem.Str := ["bag", "name", "first", "second", "sign", "place", "longer", "choice", "found"]
def p_law_odd_leaf : List PySem.Str := ["bag", "name", "first", "second"]
def f_law_odd_fork : Fn := ⟨4, 10, (.cons (.set 4 (.lc false [8, 9] [8, 9] (.e (.var 0)) (.cmp .eq (.op2 .slU (.var 8) (.int 1)) (.str [48])) (.tup (.cons (.op2 .slL (.var 8) (.int 1)) (.cons (.var 9) (.nil)))))) (.cons (.set 5 (.lc false [8, 9] [8, 9] (.e (.var 0)) (.cmp .eq (.op2 .slU (.var 8) (.int 1)) (.str [49])) (.tup (.cons (.op2 .slL (.var 8) (.int 1)) (.cons (.var 9) (.nil)))))) (.cons (.ite (.cmp .eq (.var 1) (.str [])) (.cons (.set 6 (.call 17 (.ex (.var 4) (.nil)))) (.cons (.set 7 (.call 17 (.ex (.var 5) (.nil)))) (.cons (.ret (.op2 .ix (.tup (.cons (.lst false (.cons (.var 6) (.cons (.var 7) (.nil)))) (.cons (.tup (.cons (.var 6) (.nil))) (.cons (.tup (.cons (.var 6) (.cons (.var 7) (.cons (.var 3) (.nil))))) (.cons (.tup (.cons (.var 6) (.cons (.var 6) (.nil)))) (.nil)))))) (.var 2))) (.nil)))) (.nil)) (.cons (.ite (.cmp .eq (.op2 .slU (.var 1) (.int 1)) (.str [48])) (.cons (.ret (.tup (.cons (.call 20 (.ex (.var 4) (.ex (.op2 .slL (.var 1) (.int 1)) (.ex (.var 2) (.ex (.var 3) (.nil)))))) (.cons (.call 17 (.ex (.var 5) (.nil))) (.nil))))) (.nil)) (.nil)) (.cons (.ret (.tup (.cons (.call 17 (.ex (.var 4) (.nil))) (.cons (.call 20 (.ex (.var 5) (.ex (.op2 .slL (.var 1) (.int 1)) (.ex (.var 2) (.ex (.var 3) (.nil)))))) (.nil))))) (.nil)))))), false⟩
def n_law_odd_fork : List PySem.Str := ["rows", "spot", "choice", "spare", "left", "right", "one", "two", "way", "name"]
def p_law_odd_fork : List PySem.Str := ["rows", "spot", "choice", "spare"]
def f_law_forks : Fn := ⟨1, 4, (.cons (.set 1 (.lst false (.nil))) (.cons (.for [2] (.e (.var 0)) (.cons (.for [3] (.rng1 (.op1 .len (.var 2))) (.cons (.ite (.cmp .notin (.op2 .slU (.var 2) (.var 3)) (.var 1)) (.cons (.set 1 (.op2 .add (.var 1) (.lst false (.cons (.op2 .slU (.var 2) (.var 3)) (.nil))))) (.nil)) (.nil)) (.nil))) (.nil))) (.cons (.ret (.var 1)) (.nil)))), false⟩
def n_law_forks : List PySem.Str := ["ways", "forks", "way", "size"]
def p_law_forks : List PySem.Str := ["ways"]
def f_law_no_tree : Fn := ⟨5, 14, (.cons (.set 5 (.call 21 (.ex (.var 1) (.nil)))) (.cons (.set 6 (.call 12 (.ex (.var 0) (.ex (.int 8) (.nil))))) (.cons (.ite (.cmp .eq (.var 6) (.int 0)) (.cons (.set 9 (.op2 .add (.int 13) (.call 12 (.ex (.var 0) (.ex (.int 4) (.nil)))))) (.cons (.ret (.call 18 (.ex (.call 16 (.ex (.var 0) (.ex (.var 9) (.nil)))) (.ex (.call 15 (.ex (.var 0) (.ex (.var 9) (.nil)))) (.nil))))) (.nil))) (.nil)) (.cons (.ite (.cmp .eq (.var 6) (.int 1)) (.cons (.set 10 (.var 3)) (.cons (.for [11] (.rng1 (.op2 .add (.int 30) (.call 12 (.ex (.var 0) (.ex (.int 30) (.nil)))))) (.cons (.set 10 (.tup (.cons (.var 10) (.cons (.op2 .ix (.var 2) (.int 0)) (.nil))))) (.nil))) (.cons (.ret (.var 10)) (.nil)))) (.nil)) (.cons (.ite (.and (.cmp .lt (.var 6) (.int 5)) (.var 5)) (.cons (.set 12 (.op2 .ix (.var 5) (.call 12 (.ex (.var 0) (.ex (.op1 .len (.var 5)) (.nil)))))) (.cons (.set 13 (.lc false [11] [11] (.rng1 (.op1 .len (.var 2))) (.bl true) (.tup (.cons (.op2 .ix (.var 1) (.var 11)) (.cons (.op2 .ix (.var 2) (.var 11)) (.nil)))))) (.cons (.ret (.call 20 (.ex (.var 13) (.ex (.var 12) (.ex (.call 12 (.ex (.var 0) (.ex (.int 4) (.nil)))) (.ex (.var 4) (.nil))))))) (.nil)))) (.nil)) (.cons (.set 7 (.call 12 (.ex (.var 0) (.ex (.op1 .len (.var 2)) (.nil))))) (.cons (.set 8 (.call 19 (.ex (.var 0) (.ex (.op2 .ix (.var 2) (.var 7)) (.ex (.var 3) (.ex (.var 4) (.nil))))))) (.cons (.ret (.call 18 (.ex (.var 1) (.ex (.op2 .add (.op2 .add (.op2 .slU (.var 2) (.var 7)) (.lst false (.cons (.var 8) (.nil)))) (.op2 .slL (.var 2) (.op2 .add (.var 7) (.int 1)))) (.nil))))) (.nil))))))))), false⟩
def n_law_no_tree : List PySem.Str := ["bag", "ways", "names", "first", "second", "forks", "pick", "at", "odd", "count", "value", "k", "spot", "rows"]
def p_law_no_tree : List PySem.Str := ["bag", "ways", "names", "first", "second"]
def f_law_told : Fn := ⟨1, 2, (.cons (.set 1 (.lst false (.cons (.isE 0 2) (.cons (.isE 0 3) (.cons (.isE 0 5) (.cons (.isE 0 1) (.cons (.isE 0 4) (.cons (.isE 0 6) (.nil))))))))) (.cons (.ite (.or (.cmp .ne (.op2 .count (.var 1) (.bl true)) (.int 1)) (.not (.isV 0))) (.cons (.ret (.tup (.cons (.int 9) (.cons (.str []) (.nil))))) (.nil)) (.nil)) (.cons (.ite (.isE 0 2) (.cons (.ret (.tup (.cons (.int 1) (.cons (.str []) (.nil))))) (.nil)) (.nil)) (.cons (.ite (.isE 0 3) (.cons (.ret (.tup (.cons (.int 2) (.cons (.atE 0 1) (.nil))))) (.nil)) (.nil)) (.cons (.ite (.isE 0 5) (.cons (.ret (.tup (.cons (.int 3) (.cons (.atE 0 2) (.nil))))) (.nil)) (.nil)) (.cons (.ret (.tup (.cons (.int 9) (.cons (.str []) (.nil))))) (.nil))))))), false⟩
def n_law_told : List PySem.Str := ["raised", "kinds"]
def p_law_told : List PySem.Str := ["raised"]
def f_law_ask : Fn := ⟨4, 5, (.cons (.tr (.cons (.ite (.cmp .eq (.var 0) (.int 0)) (.cons (.ret (.tup (.cons (.int 0) (.cons (.call 3 (.ex (.var 1) (.nil))) (.nil))))) (.nil)) (.nil)) (.cons (.ite (.cmp .eq (.var 0) (.int 1)) (.cons (.ret (.tup (.cons (.int 0) (.cons (.call 4 (.ex (.var 1) (.nil))) (.nil))))) (.nil)) (.nil)) (.cons (.ite (.cmp .eq (.var 0) (.int 2)) (.cons (.ret (.tup (.cons (.int 0) (.cons (.call 5 (.ex (.var 1) (.ex (.var 2) (.nil)))) (.nil))))) (.nil)) (.nil)) (.cons (.ite (.cmp .eq (.var 0) (.int 3)) (.cons (.ret (.tup (.cons (.int 0) (.cons (.call 6 (.ex (.var 1) (.nil))) (.nil))))) (.nil)) (.nil)) (.cons (.ite (.cmp .eq (.var 0) (.int 4)) (.cons (.ret (.tup (.cons (.int 0) (.cons (.call 8 (.ex (.var 1) (.nil))) (.nil))))) (.nil)) (.nil)) (.cons (.ret (.tup (.cons (.int 0) (.cons (.call 9 (.ex (.var 1) (.ex (.var 2) (.ex (.var 3) (.nil))))) (.nil))))) (.nil))))))) (.cons 0 4 (.cons (.ret (.call 23 (.ec 4 (.nil)))) (.nil)) (.nil))) (.nil)), false⟩
def n_law_ask : List PySem.Str := ["which", "value", "word", "side", "raised"]
def p_law_ask : List PySem.Str := ["which", "value", "word", "side"]
def f_law_texts : Fn := ⟨2, 3, (.cons (.ite (.or (.not (.op1 (.isTy .list) (.var 0))) (.cmp .ne (.op1 .len (.var 0)) (.op1 .len (.var 1)))) (.cons (.ret (.bl false)) (.nil)) (.nil)) (.cons (.ret (.op1 .all (.lc false [2] [2] (.rng1 (.op1 .len (.var 1))) (.bl true) (.and (.op1 (.isTy .str) (.op2 .ix (.var 0) (.var 2))) (.cmp .eq (.op2 .ix (.var 0) (.var 2)) (.op2 .ix (.var 1) (.var 2))))))) (.nil))), false⟩
def n_law_texts : List PySem.Str := ["actual", "due", "k"]
def p_law_texts : List PySem.Str := ["actual", "due"]
def f_law_tells : Fn := ⟨3, 7, (.cons (.ite (.cmp .isnot (.call 1 (.ex (.var 0) (.nil))) (.bl true)) (.cons (.ret (.bl false)) (.nil)) (.nil)) (.cons (.ite (.not (.call 25 (.ex (.call 3 (.ex (.var 0) (.nil))) (.ex (.var 2) (.nil))))) (.cons (.ret (.bl false)) (.nil)) (.nil)) (.cons (.set 3 (.call 4 (.ex (.var 0) (.nil)))) (.cons (.ite (.or (.not (.op1 (.isTy .dict) (.var 3))) (.not (.call 25 (.ex (.op1 (.lkeys false) (.var 3)) (.ex (.var 2) (.nil)))))) (.cons (.ret (.bl false)) (.nil)) (.nil)) (.cons (.ite (.not (.call 25 (.ex (.lc false [5] [5] (.e (.var 2)) (.bl true) (.op2 .ix (.var 3) (.var 5))) (.ex (.var 1) (.nil))))) (.cons (.ret (.bl false)) (.nil)) (.nil)) (.cons (.ite (.not (.call 25 (.ex (.lc false [5] [5] (.e (.var 2)) (.bl true) (.call 5 (.ex (.var 0) (.ex (.var 5) (.nil))))) (.ex (.var 1) (.nil))))) (.cons (.ret (.bl false)) (.nil)) (.nil)) (.cons (.set 4 (.call 8 (.ex (.var 0) (.nil)))) (.cons (.ite (.or (.not (.op1 (.isTy .int) (.var 4))) (.op1 (.isTy .bool) (.var 4))) (.cons (.ret (.bl false)) (.nil)) (.nil)) (.cons (.ret (.cmp .eq (.var 4) (.op1 .max1 (.lc false [6] [6] (.e (.var 1)) (.bl true) (.op1 .len (.var 6)))))) (.nil)))))))))), false⟩
def n_law_tells : List PySem.Str := ["tree", "ways", "names", "table", "height", "name", "way"]
def p_law_tells : List PySem.Str := ["tree", "ways", "names"]
def f_law_sides : Fn := ⟨3, 9, (.cons (.set 3 (.call 21 (.ex (.var 1) (.nil)))) (.cons (.ite (.not (.call 25 (.ex (.call 6 (.ex (.var 0) (.nil))) (.ex (.var 3) (.nil))))) (.cons (.ret (.bl false)) (.nil)) (.nil)) (.cons (.for [4] (.e (.var 3)) (.cons (.for [5] (.rng1 (.int 2)) (.cons (.set 6 (.op2 .add (.var 4) (.op1 .strI (.var 5)))) (.cons (.set 7 (.lc false [8] [8] (.rng1 (.op1 .len (.var 2))) (.op2 .starts (.op2 .ix (.var 1) (.var 8)) (.var 6)) (.op2 .ix (.var 2) (.var 8)))) (.cons (.ite (.not (.call 25 (.ex (.call 9 (.ex (.var 0) (.ex (.var 4) (.ex (.var 5) (.nil))))) (.ex (.var 7) (.nil))))) (.cons (.ret (.bl false)) (.nil)) (.nil)) (.nil))))) (.nil))) (.cons (.ret (.bl true)) (.nil))))), false⟩
def n_law_sides : List PySem.Str := ["tree", "ways", "names", "forks", "fork", "side", "start", "due", "k"]
def p_law_sides : List PySem.Str := ["tree", "ways", "names"]
def f_law_refused : Fn := ⟨4, 9, (.cons (.ite (.cmp .ne (.call 24 (.ex (.int 2) (.ex (.var 1) (.ex (.var 3) (.ex (.int 0) (.nil)))))) (.tup (.cons (.int 2) (.cons (.var 3) (.nil))))) (.cons (.ret (.bl false)) (.nil)) (.nil)) (.cons (.set 4 (.op2 .ix (.var 2) (.call 12 (.ex (.var 0) (.ex (.op1 .len (.var 2)) (.nil)))))) (.cons (.set 5 (.call 12 (.ex (.var 0) (.ex (.op2 .add (.op1 .len (.var 4)) (.int 1)) (.nil))))) (.cons (.set 6 (.op2 .ix (.str [50, 97, 120]) (.call 12 (.ex (.var 0) (.ex (.int 3) (.nil)))))) (.cons (.set 7 (.op1 .strI (.call 12 (.ex (.var 0) (.ex (.int 2) (.nil)))))) (.cons (.for [8] (.e (.lst false (.cons (.var 4) (.cons (.op2 .add (.var 4) (.var 7)) (.cons (.op2 .add (.op2 .add (.op2 .slU (.var 4) (.var 5)) (.var 6)) (.op2 .slL (.var 4) (.var 5))) (.nil)))))) (.cons (.ite (.cmp .ne (.call 24 (.ex (.int 5) (.ex (.var 1) (.ex (.var 8) (.ex (.call 12 (.ex (.var 0) (.ex (.int 2) (.nil)))) (.nil)))))) (.tup (.cons (.int 3) (.cons (.var 8) (.nil))))) (.cons (.ret (.bl false)) (.nil)) (.nil)) (.nil))) (.cons (.ret (.bl true)) (.nil)))))))), false⟩
def n_law_refused : List PySem.Str := ["bag", "tree", "ways", "stranger", "way", "place", "sign", "bit", "word"]
def p_law_refused : List PySem.Str := ["bag", "tree", "ways", "stranger"]
def f_law_round : Fn := ⟨1, 12, (.cons (.set 1 (.call 13 (.ex (.var 0) (.nil)))) (.cons (.set 2 (.call 15 (.ex (.var 0) (.ex (.op2 .add (.var 1) (.int 2)) (.nil))))) (.cons (.set 3 (.op2 .ix (.var 2) (.var 1))) (.cons (.set 4 (.op2 .ix (.var 2) (.op2 .add (.var 1) (.int 1)))) (.cons (.set 2 (.op2 .slU (.var 2) (.var 1))) (.cons (.set 5 (.call 16 (.ex (.var 0) (.ex (.var 1) (.nil))))) (.cons (.set 6 (.call 18 (.ex (.var 5) (.ex (.var 2) (.nil))))) (.cons (.ite (.or (.not (.call 26 (.ex (.var 6) (.ex (.var 5) (.ex (.var 2) (.nil)))))) (.not (.call 27 (.ex (.var 6) (.ex (.var 5) (.ex (.var 2) (.nil))))))) (.cons (.ret (.bl false)) (.nil)) (.nil)) (.cons (.ite (.not (.call 28 (.ex (.var 0) (.ex (.var 6) (.ex (.var 5) (.ex (.var 3) (.nil))))))) (.cons (.ret (.bl false)) (.nil)) (.nil)) (.cons (.set 7 (.call 22 (.ex (.var 0) (.ex (.var 5) (.ex (.var 2) (.ex (.var 3) (.ex (.var 4) (.nil)))))))) (.cons (.ite (.cmp .isnot (.call 1 (.ex (.var 7) (.nil))) (.bl false)) (.cons (.ret (.bl false)) (.nil)) (.nil)) (.cons (.set 8 (.op2 .ix (.tup (.cons (.op2 .ix (.var 2) (.int 0)) (.cons (.var 3) (.cons (.str []) (.nil))))) (.call 12 (.ex (.var 0) (.ex (.int 3) (.nil)))))) (.cons (.set 9 (.op2 .ix (.tup (.cons (.str []) (.cons (.op2 .ix (.var 5) (.int 0)) (.cons (.str [51]) (.nil))))) (.call 12 (.ex (.var 0) (.ex (.int 3) (.nil)))))) (.cons (.for [10] (.rng1 (.int 6)) (.cons (.set 11 (.var 9)) (.cons (.ite (.cmp .eq (.var 10) (.int 2)) (.cons (.set 11 (.var 8)) (.nil)) (.nil)) (.cons (.ite (.cmp .ne (.call 24 (.ex (.var 10) (.ex (.var 7) (.ex (.var 11) (.ex (.call 12 (.ex (.var 0) (.ex (.int 2) (.nil)))) (.nil)))))) (.tup (.cons (.int 1) (.cons (.str []) (.nil))))) (.cons (.ret (.bl false)) (.nil)) (.nil)) (.nil))))) (.cons (.ret (.bl true)) (.nil)))))))))))))))), false⟩
def n_law_round : List PySem.Str := ["bag", "count", "names", "first", "second", "ways", "tree", "value", "writer", "fork", "which", "word"]
def p_law_round : List PySem.Str := ["bag"]
def f_law : Fn := ⟨1, 2, (.cons (.for [1] (.rng1 (.op2 .min2 (.int 5) (.op2 .add (.int 1) (.op1 .len (.var 0))))) (.cons (.ite (.not (.call 29 (.ex (.call 10 (.ex (.var 0) (.ex (.var 1) (.nil)))) (.nil)))) (.cons (.ret (.bl false)) (.nil)) (.nil)) (.nil))) (.cons (.ret (.bl true)) (.nil))), false⟩
def n_law : List PySem.Str := ["script", "k"]
def p_law : List PySem.Str := ["script"]
def fns : List Fn := [f_is_name, f_is_tree, f_parts_of, f_leaf_names, f_ways_of, f_way_of, f_forks_of, f_check_fork, f_height_of, f_names_beneath, f_law_bag, f_law_mixed, f_law_draw, f_law_count, f_law_name, f_law_names, f_law_ways, f_law_tree, f_law_made, f_law_odd_leaf, f_law_odd_fork, f_law_forks, f_law_no_tree, f_law_told, f_law_ask, f_law_texts, f_law_tells, f_law_sides, f_law_refused, f_law_round, f_law]
def fnNames : List PySem.Str := ["is_name", "is_tree", "parts_of", "leaf_names", "ways_of", "way_of", "forks_of", "check_fork", "height_of", "names_beneath", "_law_bag", "_law_mixed", "_law_draw", "_law_count", "_law_name", "_law_names", "_law_ways", "_law_tree", "_law_made", "_law_odd_leaf", "_law_odd_fork", "_law_forks", "_law_no_tree", "_law_told", "_law_ask", "_law_texts", "_law_tells", "_law_sides", "_law_refused", "_law_round", "law"]
def fields : List PySem.Str := ["name", "writer", "fork", "most"]
end
open PySem PySem.Spec PyProof.Rows L2
abbrev RW := PySem.Challenge.rw_forkflags_k03_whole_ways_of_trees
def top (i : Nat) : Stmt := RW.prog.main.body.getD i (.Pass ⟨0, 0, 0, 0⟩)
def inside (i j : Nat) : Stmt := match top i with
  | .ClassDef _ _ _ b _ _ _ _ _ _ _ => b.getD j (.Pass ⟨0, 0, 0, 0⟩)
  | _ => .Pass ⟨0, 0, 0, 0⟩
def d0 : He.DefD := ⟨("is_name", none), "is_name", "is_name", defArgs (top 11), defBody (top 11), defScope (top 11), [], []⟩
def d1 : He.DefD := ⟨("is_tree", none), "is_tree", "is_tree", defArgs (top 13), defBody (top 13), defScope (top 13), [], []⟩
def d2 : He.DefD := ⟨("parts_of", none), "parts_of", "parts_of", defArgs (top 14), defBody (top 14), defScope (top 14), [], []⟩
def d3 : He.DefD := ⟨("leaf_names", none), "leaf_names", "leaf_names", defArgs (top 15), defBody (top 15), defScope (top 15), [], []⟩
def d4 : He.DefD := ⟨("ways_of", none), "ways_of", "ways_of", defArgs (top 16), defBody (top 16), defScope (top 16), [], []⟩
def d5 : He.DefD := ⟨("way_of", none), "way_of", "way_of", defArgs (top 17), defBody (top 17), defScope (top 17), [], []⟩
def d6 : He.DefD := ⟨("forks_of", none), "forks_of", "forks_of", defArgs (top 18), defBody (top 18), defScope (top 18), [], []⟩
def d7 : He.DefD := ⟨("check_fork", none), "check_fork", "check_fork", defArgs (top 19), defBody (top 19), defScope (top 19), [], []⟩
def d8 : He.DefD := ⟨("height_of", none), "height_of", "height_of", defArgs (top 20), defBody (top 20), defScope (top 20), [], []⟩
def d9 : He.DefD := ⟨("names_beneath", none), "names_beneath", "names_beneath", defArgs (top 21), defBody (top 21), defScope (top 21), [], []⟩
def d10 : He.DefD := ⟨("_law_bag", none), "_law_bag", "_law_bag", defArgs (top 23), defBody (top 23), defScope (top 23), [], []⟩
def d11 : He.DefD := ⟨("_law_mixed", none), "_law_mixed", "_law_mixed", defArgs (top 24), defBody (top 24), defScope (top 24), [], []⟩
def d12 : He.DefD := ⟨("_law_draw", none), "_law_draw", "_law_draw", defArgs (top 25), defBody (top 25), defScope (top 25), [], []⟩
def d13 : He.DefD := ⟨("_law_count", none), "_law_count", "_law_count", defArgs (top 26), defBody (top 26), defScope (top 26), [], []⟩
def d14 : He.DefD := ⟨("_law_name", none), "_law_name", "_law_name", defArgs (top 27), defBody (top 27), defScope (top 27), [], []⟩
def d15 : He.DefD := ⟨("_law_names", none), "_law_names", "_law_names", defArgs (top 28), defBody (top 28), defScope (top 28), [], []⟩
def d16 : He.DefD := ⟨("_law_ways", none), "_law_ways", "_law_ways", defArgs (top 29), defBody (top 29), defScope (top 29), [], []⟩
def d17 : He.DefD := ⟨("_law_tree", none), "_law_tree", "_law_tree", defArgs (top 30), defBody (top 30), defScope (top 30), [], []⟩
def d18 : He.DefD := ⟨("_law_made", none), "_law_made", "_law_made", defArgs (top 31), defBody (top 31), defScope (top 31), [], []⟩
def d19 : He.DefD := ⟨("_law_odd_leaf", none), "_law_odd_leaf", "_law_odd_leaf", defArgs (top 32), defBody (top 32), defScope (top 32), [], []⟩
def d20 : He.DefD := ⟨("_law_odd_fork", none), "_law_odd_fork", "_law_odd_fork", defArgs (top 33), defBody (top 33), defScope (top 33), [], []⟩
def d21 : He.DefD := ⟨("_law_forks", none), "_law_forks", "_law_forks", defArgs (top 34), defBody (top 34), defScope (top 34), [], []⟩
def d22 : He.DefD := ⟨("_law_no_tree", none), "_law_no_tree", "_law_no_tree", defArgs (top 35), defBody (top 35), defScope (top 35), [], []⟩
def d23 : He.DefD := ⟨("_law_told", none), "_law_told", "_law_told", defArgs (top 36), defBody (top 36), defScope (top 36), [], []⟩
def d24 : He.DefD := ⟨("_law_ask", none), "_law_ask", "_law_ask", defArgs (top 37), defBody (top 37), defScope (top 37), [], []⟩
def d25 : He.DefD := ⟨("_law_texts", none), "_law_texts", "_law_texts", defArgs (top 38), defBody (top 38), defScope (top 38), [], []⟩
def d26 : He.DefD := ⟨("_law_tells", none), "_law_tells", "_law_tells", defArgs (top 39), defBody (top 39), defScope (top 39), [], []⟩
def d27 : He.DefD := ⟨("_law_sides", none), "_law_sides", "_law_sides", defArgs (top 40), defBody (top 40), defScope (top 40), [], []⟩
def d28 : He.DefD := ⟨("_law_refused", none), "_law_refused", "_law_refused", defArgs (top 41), defBody (top 41), defScope (top 41), [], []⟩
def d29 : He.DefD := ⟨("_law_round", none), "_law_round", "_law_round", defArgs (top 42), defBody (top 42), defScope (top 42), [], []⟩
def d30 : He.DefD := ⟨("law", none), "law", "law", defArgs (top 43), defBody (top 43), defScope (top 43), [], []⟩
def i1 : He.DefD := ⟨("InvalidName", some "__init__"), "__init__", "InvalidName.__init__", defArgs (inside 2 0), defBody (inside 2 0), defScope (inside 2 0), [], []⟩
def i3 : He.DefD := ⟨("UnknownWriter", some "__init__"), "__init__", "UnknownWriter.__init__", defArgs (inside 4 0), defBody (inside 4 0), defScope (inside 4 0), [], []⟩
def i4 : He.DefD := ⟨("DuplicateWriter", some "__init__"), "__init__", "DuplicateWriter.__init__", defArgs (inside 5 0), defBody (inside 5 0), defScope (inside 5 0), [], []⟩
def i5 : He.DefD := ⟨("UnknownFork", some "__init__"), "__init__", "UnknownFork.__init__", defArgs (inside 6 0), defBody (inside 6 0), defScope (inside 6 0), [], []⟩
def i6 : He.DefD := ⟨("TooMany", some "__init__"), "__init__", "TooMany.__init__", defArgs (inside 7 0), defBody (inside 7 0), defScope (inside 7 0), [], []⟩
def fn : List He.DefD := [d0, d1, d2, d3, d4, d5, d6, d7, d8, d9, d10, d11, d12, d13, d14, d15, d16, d17, d18, d19, d20, d21, d22, d23, d24, d25, d26, d27, d28, d29, d30, i1, i3, i4, i5, i6]
def glos : List (Str × Int) := [("MOST_LETTERS", 8), ("MOST_WRITERS", 12)]
def xs : List (Str × List Nat) := [("ForkError", []), ("InvalidName", [0]), ("InvalidTree", []), ("UnknownWriter", [1]), ("DuplicateWriter", [1]), ("UnknownFork", [2]), ("TooMany", [3])]
def tab : List (List Bool) := [[true, false, false, false, false, false, false], [true, true, false, false, false, false, false], [true, false, true, false, false, false, false], [true, false, false, true, false, false, false], [true, false, false, false, true, false, false], [true, false, false, false, false, true, false], [true, false, false, false, false, false, true]]
def lay : FV.Hd.Lay := ⟨fns, fnNames, glos, xs, fields, fun i j => (tab.getD i []).getD j false⟩
abbrev R : PySem.W.OpenRow := PySem.W.OpenLaw.row RW
abbrev hk : PySem.W.Hook := FV.Hd.hookB 5 lay.ok fn
def ob (s : PySem.W.SharedT) : He.AlD := FV.Hd.obsBG 5 lay.ok fn (HandSHeadRun.getT s)
theorem ob_eq (s : PySem.W.SharedT) : ob s = hk.obs s.abs := FV.Hd.obsBG_eq (HandSHeadRun.getT_eq s)
def loose0 : List Str := ["ForkError", "InvalidName", "InvalidTree", "UnknownWriter", "DuplicateWriter", "UnknownFork", "TooMany", "MOST_LETTERS", "MOST_WRITERS", "is_name", "is_tree", "parts_of", "leaf_names", "ways_of", "way_of", "forks_of", "check_fork", "height_of", "names_beneath", "_law_bag", "_law_mixed", "_law_draw", "_law_count", "_law_name", "_law_names", "_law_ways", "_law_tree", "_law_made", "_law_odd_leaf", "_law_odd_fork"]
def loose1 : List Str := ["_law_forks", "_law_no_tree", "_law_told", "_law_ask", "_law_texts", "_law_tells", "_law_sides", "_law_refused", "_law_round"]
def loose : List Str := loose0 ++ loose1
theorem run (w : World) : HandSHeadRun.RunEq R (PySem.W.view R.prog [43]) hk ob 20000 loose w := by
  intro os
  kernel_rfl
section
variable {P : Program} {w : World} {K : PySem.W.Frag} {mg : Str → Option Value} {base h : Heap} (c : FV.Hd.SaysB lay.ok fn K)
include c
theorem k0 : FV.DefOk (lay.lw P w K mg base) lay.S0 0 f_is_name := by
  obtain ⟨fd, F⟩ := c.def_ (d := d0) (List.mem_of_getElem? (i := 0) rfl)
  exact FV.Hd.defOk_of (N := n_is_name) (ps := p_is_name) F ⟨rfl, rfl, rfl, by decide +kernel, rfl, by decide +kernel, by decide +kernel⟩ (fun _ _ _ _ _ _ us hl => match us, hl with | [_], _ => rfl) rfl rfl (by kernel_rfl)
theorem k1 : FV.DefOk (lay.lw P w K mg base) lay.S0 1 f_is_tree := by
  obtain ⟨fd, F⟩ := c.def_ (d := d1) (List.mem_of_getElem? (i := 1) rfl)
  exact FV.Hd.defOk_of (N := n_is_tree) (ps := p_is_tree) F ⟨rfl, rfl, rfl, by decide +kernel, rfl, by decide +kernel, by decide +kernel⟩ (fun _ _ _ _ _ _ us hl => match us, hl with | [_], _ => rfl) rfl rfl (by kernel_rfl)
theorem k2 : FV.DefOk (lay.lw P w K mg base) lay.S0 2 f_parts_of := by
  obtain ⟨fd, F⟩ := c.def_ (d := d2) (List.mem_of_getElem? (i := 2) rfl)
  exact FV.Hd.defOk_of (N := n_parts_of) (ps := p_parts_of) F ⟨rfl, rfl, rfl, by decide +kernel, rfl, by decide +kernel, by decide +kernel⟩ (fun _ _ _ _ _ _ us hl => match us, hl with | [_], _ => rfl) rfl rfl (by kernel_rfl)
theorem k3 : FV.DefOk (lay.lw P w K mg base) lay.S0 3 f_leaf_names := by
  obtain ⟨fd, F⟩ := c.def_ (d := d3) (List.mem_of_getElem? (i := 3) rfl)
  exact FV.Hd.defOk_of (N := n_leaf_names) (ps := p_leaf_names) F ⟨rfl, rfl, rfl, by decide +kernel, rfl, by decide +kernel, by decide +kernel⟩ (fun _ _ _ _ _ _ us hl => match us, hl with | [_], _ => rfl) rfl rfl (by kernel_rfl)
theorem k4 : FV.DefOk (lay.lw P w K mg base) lay.S0 4 f_ways_of := by
  obtain ⟨fd, F⟩ := c.def_ (d := d4) (List.mem_of_getElem? (i := 4) rfl)
  exact FV.Hd.defOk_of (N := n_ways_of) (ps := p_ways_of) F ⟨rfl, rfl, rfl, by decide +kernel, rfl, by decide +kernel, by decide +kernel⟩ (fun _ _ _ _ _ _ us hl => match us, hl with | [_], _ => rfl) rfl rfl (by kernel_rfl)
theorem k5 : FV.DefOk (lay.lw P w K mg base) lay.S0 5 f_way_of := by
  obtain ⟨fd, F⟩ := c.def_ (d := d5) (List.mem_of_getElem? (i := 5) rfl)
  exact FV.Hd.defOk_of (N := n_way_of) (ps := p_way_of) F ⟨rfl, rfl, rfl, by decide +kernel, rfl, by decide +kernel, by decide +kernel⟩ (fun _ _ _ _ _ _ us hl => match us, hl with | [_, _], _ => rfl) rfl rfl (by kernel_rfl)
theorem k6 : FV.DefOk (lay.lw P w K mg base) lay.S0 6 f_forks_of := by
  obtain ⟨fd, F⟩ := c.def_ (d := d6) (List.mem_of_getElem? (i := 6) rfl)
  exact FV.Hd.defOk_of (N := n_forks_of) (ps := p_forks_of) F ⟨rfl, rfl, rfl, by decide +kernel, rfl, by decide +kernel, by decide +kernel⟩ (fun _ _ _ _ _ _ us hl => match us, hl with | [_], _ => rfl) rfl rfl (by kernel_rfl)
theorem k7 : FV.DefOk (lay.lw P w K mg base) lay.S0 7 f_check_fork := by
  obtain ⟨fd, F⟩ := c.def_ (d := d7) (List.mem_of_getElem? (i := 7) rfl)
  exact FV.Hd.defOk_of (N := n_check_fork) (ps := p_check_fork) F ⟨rfl, rfl, rfl, by decide +kernel, rfl, by decide +kernel, by decide +kernel⟩ (fun _ _ _ _ _ _ us hl => match us, hl with | [_, _], _ => rfl) rfl rfl (by kernel_rfl)
theorem k8 : FV.DefOk (lay.lw P w K mg base) lay.S0 8 f_height_of := by
  obtain ⟨fd, F⟩ := c.def_ (d := d8) (List.mem_of_getElem? (i := 8) rfl)
  exact FV.Hd.defOk_of (N := n_height_of) (ps := p_height_of) F ⟨rfl, rfl, rfl, by decide +kernel, rfl, by decide +kernel, by decide +kernel⟩ (fun _ _ _ _ _ _ us hl => match us, hl with | [_], _ => rfl) rfl rfl (by kernel_rfl)
theorem k9 : FV.DefOk (lay.lw P w K mg base) lay.S0 9 f_names_beneath := by
  obtain ⟨fd, F⟩ := c.def_ (d := d9) (List.mem_of_getElem? (i := 9) rfl)
  exact FV.Hd.defOk_of (N := n_names_beneath) (ps := p_names_beneath) F ⟨rfl, rfl, rfl, by decide +kernel, rfl, by decide +kernel, by decide +kernel⟩ (fun _ _ _ _ _ _ us hl => match us, hl with | [_, _, _], _ => rfl) rfl rfl (by kernel_rfl)
theorem k10 : FV.DefOk (lay.lw P w K mg base) lay.S0 10 f_law_bag := by
  obtain ⟨fd, F⟩ := c.def_ (d := d10) (List.mem_of_getElem? (i := 10) rfl)
  exact FV.Hd.defOk_of (N := n_law_bag) (ps := p_law_bag) F ⟨rfl, rfl, rfl, by decide +kernel, rfl, by decide +kernel, by decide +kernel⟩ (fun _ _ _ _ _ _ us hl => match us, hl with | [_, _], _ => rfl) rfl rfl (by kernel_rfl)
theorem k11 : FV.DefOk (lay.lw P w K mg base) lay.S0 11 f_law_mixed := by
  obtain ⟨fd, F⟩ := c.def_ (d := d11) (List.mem_of_getElem? (i := 11) rfl)
  exact FV.Hd.defOk_of (N := n_law_mixed) (ps := p_law_mixed) F ⟨rfl, rfl, rfl, by decide +kernel, rfl, by decide +kernel, by decide +kernel⟩ (fun _ _ _ _ _ _ us hl => match us, hl with | [_], _ => rfl) rfl rfl (by kernel_rfl)
theorem k12 : FV.DefOk (lay.lw P w K mg base) lay.S0 12 f_law_draw := by
  obtain ⟨fd, F⟩ := c.def_ (d := d12) (List.mem_of_getElem? (i := 12) rfl)
  exact FV.Hd.defOk_of (N := n_law_draw) (ps := p_law_draw) F ⟨rfl, rfl, rfl, by decide +kernel, rfl, by decide +kernel, by decide +kernel⟩ (fun _ _ _ _ _ _ us hl => match us, hl with | [_, _], _ => rfl) rfl rfl (by kernel_rfl)
theorem k13 : FV.DefOk (lay.lw P w K mg base) lay.S0 13 f_law_count := by
  obtain ⟨fd, F⟩ := c.def_ (d := d13) (List.mem_of_getElem? (i := 13) rfl)
  exact FV.Hd.defOk_of (N := n_law_count) (ps := p_law_count) F ⟨rfl, rfl, rfl, by decide +kernel, rfl, by decide +kernel, by decide +kernel⟩ (fun _ _ _ _ _ _ us hl => match us, hl with | [_], _ => rfl) rfl rfl (by kernel_rfl)
theorem k14 : FV.DefOk (lay.lw P w K mg base) lay.S0 14 f_law_name := by
  obtain ⟨fd, F⟩ := c.def_ (d := d14) (List.mem_of_getElem? (i := 14) rfl)
  exact FV.Hd.defOk_of (N := n_law_name) (ps := p_law_name) F ⟨rfl, rfl, rfl, by decide +kernel, rfl, by decide +kernel, by decide +kernel⟩ (fun _ _ _ _ _ _ us hl => match us, hl with | [_, _, _], _ => rfl) rfl rfl (by kernel_rfl)
theorem k15 : FV.DefOk (lay.lw P w K mg base) lay.S0 15 f_law_names := by
  obtain ⟨fd, F⟩ := c.def_ (d := d15) (List.mem_of_getElem? (i := 15) rfl)
  exact FV.Hd.defOk_of (N := n_law_names) (ps := p_law_names) F ⟨rfl, rfl, rfl, by decide +kernel, rfl, by decide +kernel, by decide +kernel⟩ (fun _ _ _ _ _ _ us hl => match us, hl with | [_, _], _ => rfl) rfl rfl (by kernel_rfl)
theorem k16 : FV.DefOk (lay.lw P w K mg base) lay.S0 16 f_law_ways := by
  obtain ⟨fd, F⟩ := c.def_ (d := d16) (List.mem_of_getElem? (i := 16) rfl)
  exact FV.Hd.defOk_of (N := n_law_ways) (ps := p_law_ways) F ⟨rfl, rfl, rfl, by decide +kernel, rfl, by decide +kernel, by decide +kernel⟩ (fun _ _ _ _ _ _ us hl => match us, hl with | [_, _], _ => rfl) rfl rfl (by kernel_rfl)
theorem k17 : FV.DefOk (lay.lw P w K mg base) lay.S0 17 f_law_tree := by
  obtain ⟨fd, F⟩ := c.def_ (d := d17) (List.mem_of_getElem? (i := 17) rfl)
  exact FV.Hd.defOk_of (N := n_law_tree) (ps := p_law_tree) F ⟨rfl, rfl, rfl, by decide +kernel, rfl, by decide +kernel, by decide +kernel⟩ (fun _ _ _ _ _ _ us hl => match us, hl with | [_], _ => rfl) rfl rfl (by kernel_rfl)
theorem k18 : FV.DefOk (lay.lw P w K mg base) lay.S0 18 f_law_made := by
  obtain ⟨fd, F⟩ := c.def_ (d := d18) (List.mem_of_getElem? (i := 18) rfl)
  exact FV.Hd.defOk_of (N := n_law_made) (ps := p_law_made) F ⟨rfl, rfl, rfl, by decide +kernel, rfl, by decide +kernel, by decide +kernel⟩ (fun _ _ _ _ _ _ us hl => match us, hl with | [_, _], _ => rfl) rfl rfl (by kernel_rfl)
theorem k19 : FV.DefOk (lay.lw P w K mg base) lay.S0 19 f_law_odd_leaf := by
  obtain ⟨fd, F⟩ := c.def_ (d := d19) (List.mem_of_getElem? (i := 19) rfl)
  exact FV.Hd.defOk_of (N := n_law_odd_leaf) (ps := p_law_odd_leaf) F ⟨rfl, rfl, rfl, by decide +kernel, rfl, by decide +kernel, by decide +kernel⟩ (fun _ _ _ _ _ _ us hl => match us, hl with | [_, _, _, _], _ => rfl) rfl rfl (by kernel_rfl)
theorem k20 : FV.DefOk (lay.lw P w K mg base) lay.S0 20 f_law_odd_fork := by
  obtain ⟨fd, F⟩ := c.def_ (d := d20) (List.mem_of_getElem? (i := 20) rfl)
  exact FV.Hd.defOk_of (N := n_law_odd_fork) (ps := p_law_odd_fork) F ⟨rfl, rfl, rfl, by decide +kernel, rfl, by decide +kernel, by decide +kernel⟩ (fun _ _ _ _ _ _ us hl => match us, hl with | [_, _, _, _], _ => rfl) rfl rfl (by kernel_rfl)
theorem k21 : FV.DefOk (lay.lw P w K mg base) lay.S0 21 f_law_forks := by
  obtain ⟨fd, F⟩ := c.def_ (d := d21) (List.mem_of_getElem? (i := 21) rfl)
  exact FV.Hd.defOk_of (N := n_law_forks) (ps := p_law_forks) F ⟨rfl, rfl, rfl, by decide +kernel, rfl, by decide +kernel, by decide +kernel⟩ (fun _ _ _ _ _ _ us hl => match us, hl with | [_], _ => rfl) rfl rfl (by kernel_rfl)
theorem k22 : FV.DefOk (lay.lw P w K mg base) lay.S0 22 f_law_no_tree := by
  obtain ⟨fd, F⟩ := c.def_ (d := d22) (List.mem_of_getElem? (i := 22) rfl)
  exact FV.Hd.defOk_of (N := n_law_no_tree) (ps := p_law_no_tree) F ⟨rfl, rfl, rfl, by decide +kernel, rfl, by decide +kernel, by decide +kernel⟩ (fun _ _ _ _ _ _ us hl => match us, hl with | [_, _, _, _, _], _ => rfl) rfl rfl (by kernel_rfl)
theorem k23 : FV.DefOk (lay.lw P w K mg base) lay.S0 23 f_law_told := by
  obtain ⟨fd, F⟩ := c.def_ (d := d23) (List.mem_of_getElem? (i := 23) rfl)
  exact FV.Hd.defOk_of (N := n_law_told) (ps := p_law_told) F ⟨rfl, rfl, rfl, by decide +kernel, rfl, by decide +kernel, by decide +kernel⟩ (fun _ _ _ _ _ _ us hl => match us, hl with | [_], _ => rfl) rfl rfl (by kernel_rfl)
theorem k24 : FV.DefOk (lay.lw P w K mg base) lay.S0 24 f_law_ask := by
  obtain ⟨fd, F⟩ := c.def_ (d := d24) (List.mem_of_getElem? (i := 24) rfl)
  exact FV.Hd.defOk_of (N := n_law_ask) (ps := p_law_ask) F ⟨rfl, rfl, rfl, by decide +kernel, rfl, by decide +kernel, by decide +kernel⟩ (fun _ _ _ _ _ _ us hl => match us, hl with | [_, _, _, _], _ => rfl) rfl rfl (by kernel_rfl)
theorem k25 : FV.DefOk (lay.lw P w K mg base) lay.S0 25 f_law_texts := by
  obtain ⟨fd, F⟩ := c.def_ (d := d25) (List.mem_of_getElem? (i := 25) rfl)
  exact FV.Hd.defOk_of (N := n_law_texts) (ps := p_law_texts) F ⟨rfl, rfl, rfl, by decide +kernel, rfl, by decide +kernel, by decide +kernel⟩ (fun _ _ _ _ _ _ us hl => match us, hl with | [_, _], _ => rfl) rfl rfl (by kernel_rfl)
theorem k26 : FV.DefOk (lay.lw P w K mg base) lay.S0 26 f_law_tells := by
  obtain ⟨fd, F⟩ := c.def_ (d := d26) (List.mem_of_getElem? (i := 26) rfl)
  exact FV.Hd.defOk_of (N := n_law_tells) (ps := p_law_tells) F ⟨rfl, rfl, rfl, by decide +kernel, rfl, by decide +kernel, by decide +kernel⟩ (fun _ _ _ _ _ _ us hl => match us, hl with | [_, _, _], _ => rfl) rfl rfl (by kernel_rfl)
theorem k27 : FV.DefOk (lay.lw P w K mg base) lay.S0 27 f_law_sides := by
  obtain ⟨fd, F⟩ := c.def_ (d := d27) (List.mem_of_getElem? (i := 27) rfl)
  exact FV.Hd.defOk_of (N := n_law_sides) (ps := p_law_sides) F ⟨rfl, rfl, rfl, by decide +kernel, rfl, by decide +kernel, by decide +kernel⟩ (fun _ _ _ _ _ _ us hl => match us, hl with | [_, _, _], _ => rfl) rfl rfl (by kernel_rfl)
theorem k28 : FV.DefOk (lay.lw P w K mg base) lay.S0 28 f_law_refused := by
  obtain ⟨fd, F⟩ := c.def_ (d := d28) (List.mem_of_getElem? (i := 28) rfl)
  exact FV.Hd.defOk_of (N := n_law_refused) (ps := p_law_refused) F ⟨rfl, rfl, rfl, by decide +kernel, rfl, by decide +kernel, by decide +kernel⟩ (fun _ _ _ _ _ _ us hl => match us, hl with | [_, _, _, _], _ => rfl) rfl rfl (by kernel_rfl)
theorem k29 : FV.DefOk (lay.lw P w K mg base) lay.S0 29 f_law_round := by
  obtain ⟨fd, F⟩ := c.def_ (d := d29) (List.mem_of_getElem? (i := 29) rfl)
  exact FV.Hd.defOk_of (N := n_law_round) (ps := p_law_round) F ⟨rfl, rfl, rfl, by decide +kernel, rfl, by decide +kernel, by decide +kernel⟩ (fun _ _ _ _ _ _ us hl => match us, hl with | [_], _ => rfl) rfl rfl (by kernel_rfl)
theorem k30 : FV.DefOk (lay.lw P w K mg base) lay.S0 30 f_law := by
  obtain ⟨fd, F⟩ := c.def_ (d := d30) (List.mem_of_getElem? (i := 30) rfl)
  exact FV.Hd.defOk_of (N := n_law) (ps := p_law) F ⟨rfl, rfl, rfl, by decide +kernel, rfl, by decide +kernel, by decide +kernel⟩ (fun _ _ _ _ _ _ us hl => match us, hl with | [_], _ => rfl) rfl rfl (by kernel_rfl)
theorem defs (f : Nat) (F : FV.Fn) (e : (lay.lw P w K mg base).T.fn f = some F) : FV.DefOk (lay.lw P w K mg base) lay.S0 f F := by
  have e : fns[f]? = some F := e
  match f, e with
  | 0, e => cases (Option.some.inj e); exact k0 c
  | 1, e => cases (Option.some.inj e); exact k1 c
  | 2, e => cases (Option.some.inj e); exact k2 c
  | 3, e => cases (Option.some.inj e); exact k3 c
  | 4, e => cases (Option.some.inj e); exact k4 c
  | 5, e => cases (Option.some.inj e); exact k5 c
  | 6, e => cases (Option.some.inj e); exact k6 c
  | 7, e => cases (Option.some.inj e); exact k7 c
  | 8, e => cases (Option.some.inj e); exact k8 c
  | 9, e => cases (Option.some.inj e); exact k9 c
  | 10, e => cases (Option.some.inj e); exact k10 c
  | 11, e => cases (Option.some.inj e); exact k11 c
  | 12, e => cases (Option.some.inj e); exact k12 c
  | 13, e => cases (Option.some.inj e); exact k13 c
  | 14, e => cases (Option.some.inj e); exact k14 c
  | 15, e => cases (Option.some.inj e); exact k15 c
  | 16, e => cases (Option.some.inj e); exact k16 c
  | 17, e => cases (Option.some.inj e); exact k17 c
  | 18, e => cases (Option.some.inj e); exact k18 c
  | 19, e => cases (Option.some.inj e); exact k19 c
  | 20, e => cases (Option.some.inj e); exact k20 c
  | 21, e => cases (Option.some.inj e); exact k21 c
  | 22, e => cases (Option.some.inj e); exact k22 c
  | 23, e => cases (Option.some.inj e); exact k23 c
  | 24, e => cases (Option.some.inj e); exact k24 c
  | 25, e => cases (Option.some.inj e); exact k25 c
  | 26, e => cases (Option.some.inj e); exact k26 c
  | 27, e => cases (Option.some.inj e); exact k27 c
  | 28, e => cases (Option.some.inj e); exact k28 c
  | 29, e => cases (Option.some.inj e); exact k29 c
  | 30, e => cases (Option.some.inj e); exact k30 c
  | n + 31, e => cases e
theorem inits (e0 : FV.Hd.LayOk lay K) (a f : Nat) (e : lay.xk a = some (some f)) : FV.Hd.InitOk lay P w K mg base a f := by
  match a, e with
  | 0, e => cases e
  | 1, e =>
    cases (Option.some.inj (Option.some.inj e))
    obtain ⟨fd, F⟩ := c.def_ (d := i1) (List.mem_of_getElem? (i := 31) rfl)
    have z := e0.xs 1 (by decide)
    simp only [FV.Hd.xsB, Bool.and_eq_true] at z
    have z1 := (show (FV.Hd.oexB K (He.ga K (lay.xnm 1)) && _ && _) = true from z.2)
    simp only [Bool.and_eq_true] at z1
    exact ⟨fd, ["self", "name"], FV.Hd.init_ok (L := lay.lw P w K mg base) (x := "self") (y := "name") (FV.Hd.oexB_ok z1.1.1) (of_decide_eq_true (List.all_eq_true.mp z.1.1.2 _ (by decide +kernel))) F ⟨rfl, rfl, rfl, by decide +kernel, rfl, by decide +kernel, by decide +kernel⟩ (by decide) (by decide) (by decide) (by decide) (.inl rfl) (.inl rfl), F.bindsN fun _ _ _ _ _ _ us hl => match us, hl with | [_, _], _ => rfl⟩
  | 2, e => cases e
  | 3, e =>
    cases (Option.some.inj (Option.some.inj e))
    obtain ⟨fd, F⟩ := c.def_ (d := i3) (List.mem_of_getElem? (i := 32) rfl)
    have z := e0.xs 3 (by decide)
    simp only [FV.Hd.xsB, Bool.and_eq_true] at z
    have z1 := (show (FV.Hd.oexB K (He.ga K (lay.xnm 3)) && _ && _) = true from z.2)
    simp only [Bool.and_eq_true] at z1
    exact ⟨fd, ["self", "writer"], FV.Hd.init_ok (L := lay.lw P w K mg base) (x := "self") (y := "writer") (FV.Hd.oexB_ok z1.1.1) (of_decide_eq_true (List.all_eq_true.mp z.1.1.2 _ (by decide +kernel))) F ⟨rfl, rfl, rfl, by decide +kernel, rfl, by decide +kernel, by decide +kernel⟩ (by decide) (by decide) (by decide) (by decide) (.inl rfl) (.inl rfl), F.bindsN fun _ _ _ _ _ _ us hl => match us, hl with | [_, _], _ => rfl⟩
  | 4, e =>
    cases (Option.some.inj (Option.some.inj e))
    obtain ⟨fd, F⟩ := c.def_ (d := i4) (List.mem_of_getElem? (i := 33) rfl)
    have z := e0.xs 4 (by decide)
    simp only [FV.Hd.xsB, Bool.and_eq_true] at z
    have z1 := (show (FV.Hd.oexB K (He.ga K (lay.xnm 4)) && _ && _) = true from z.2)
    simp only [Bool.and_eq_true] at z1
    exact ⟨fd, ["self", "writer"], FV.Hd.init_ok (L := lay.lw P w K mg base) (x := "self") (y := "writer") (FV.Hd.oexB_ok z1.1.1) (of_decide_eq_true (List.all_eq_true.mp z.1.1.2 _ (by decide +kernel))) F ⟨rfl, rfl, rfl, by decide +kernel, rfl, by decide +kernel, by decide +kernel⟩ (by decide) (by decide) (by decide) (by decide) (.inl rfl) (.inl rfl), F.bindsN fun _ _ _ _ _ _ us hl => match us, hl with | [_, _], _ => rfl⟩
  | 5, e =>
    cases (Option.some.inj (Option.some.inj e))
    obtain ⟨fd, F⟩ := c.def_ (d := i5) (List.mem_of_getElem? (i := 34) rfl)
    have z := e0.xs 5 (by decide)
    simp only [FV.Hd.xsB, Bool.and_eq_true] at z
    have z1 := (show (FV.Hd.oexB K (He.ga K (lay.xnm 5)) && _ && _) = true from z.2)
    simp only [Bool.and_eq_true] at z1
    exact ⟨fd, ["self", "fork"], FV.Hd.init_ok (L := lay.lw P w K mg base) (x := "self") (y := "fork") (FV.Hd.oexB_ok z1.1.1) (of_decide_eq_true (List.all_eq_true.mp z.1.1.2 _ (by decide +kernel))) F ⟨rfl, rfl, rfl, by decide +kernel, rfl, by decide +kernel, by decide +kernel⟩ (by decide) (by decide) (by decide) (by decide) (.inl rfl) (.inl rfl), F.bindsN fun _ _ _ _ _ _ us hl => match us, hl with | [_, _], _ => rfl⟩
  | 6, e =>
    cases (Option.some.inj (Option.some.inj e))
    obtain ⟨fd, F⟩ := c.def_ (d := i6) (List.mem_of_getElem? (i := 35) rfl)
    have z := e0.xs 6 (by decide)
    simp only [FV.Hd.xsB, Bool.and_eq_true] at z
    have z1 := (show (FV.Hd.oexB K (He.ga K (lay.xnm 6)) && _ && _) = true from z.2)
    simp only [Bool.and_eq_true] at z1
    exact ⟨fd, ["self", "most"], FV.Hd.init_ok (L := lay.lw P w K mg base) (x := "self") (y := "most") (FV.Hd.oexB_ok z1.1.1) (of_decide_eq_true (List.all_eq_true.mp z.1.1.2 _ (by decide +kernel))) F ⟨rfl, rfl, rfl, by decide +kernel, rfl, by decide +kernel, by decide +kernel⟩ (by decide) (by decide) (by decide) (by decide) (.inl rfl) (.inl rfl), F.bindsN fun _ _ _ _ _ _ us hl => match us, hl with | [_, _], _ => rfl⟩
  | n + 7, e => cases e
theorem calls (X : K.In h) (G : h.Ns mainGlobals mg) (n : Nat) : FV.CallsOk (lay.lw P w K mg base) n := by
  have o := FV.Hd.layOk c.facts.1
  exact FV.calls_ok (FV.Hd.gd_of X G o) (FV.Hd.rs_of o (inits c o)) (defs c) n
end
end K03
open PySem PySem.W PySem.Calls PyProof.Rows in
theorem K03.holds (n : Nat) (hn : n ≤ 220) (hl : ∀ ns : List Int, ns.length ≤ 63 → ∃ h, FV.callN K03.lay.T n false 0 30 [.v (.lst (ns.map .int))] [] = .ok (.bl true) h) : K03.RW.Holds := by
  w_on; o_law
  refine HandSHeadRun.head_any (r := OpenLaw.row K03.RW) (q := view (OpenLaw.row K03.RW).prog [43]) (H := K03.hk) (ob := K03.ob) (M := 20000) (loose := K03.loose) (d := HandSHeadRun.topDef (OpenLaw.row K03.RW).prog 43) (kwd := []) K03.ob_eq
    (by kernel_rfl) (fun s => by kernel_rfl) K03.run (by kernel_rfl) (by kernel_rfl) (by kernel_rfl) (by rfl) (by first | assumption | decide +kernel) (by decide +kernel) ⟨rfl, rfl, rfl, rfl, rfl, by decide +kernel⟩ ?hw ?hc
  case hw => w_witness2
  case hc =>
    refine L2.walk_ofE (l := K03.RW) (n := 63) (k := n + 2) (x := "script") (CX := L2.CX0) rfl (by decide) (by kernel_rfl) (FV.Hd.room_of hn) ?F (fun _ _ _ _ z => z)
    intro w mg fa h Y G hmg0
    obtain ⟨K, KX, nl, c⟩ := Y
    have hmg : mg ("law" : PySem.Str) = some (.ref fa) := by
      have e : (HandSHeadRun.topDef (OpenLaw.row K03.RW).prog 43).name = ("law" : PySem.Str) := by kernel_rfl
      rw [← e]; exact hmg0
    obtain ⟨fd, F⟩ := c.def_ (d := K03.d30) (List.mem_of_getElem? (i := 30) rfl)
    have eq : He.ga K "law" = fa := by
      have z : mg ("law" : PySem.Str) = some (.ref (He.ga K "law")) := ((FV.Hd.gd_of (P := (K03.RW).prog) (w := w) (base := h) KX G (FV.Hd.layOk c.facts.1)).N.fn 30 K03.f_law rfl).1
      rw [hmg] at z
      cases z
      rfl
    have b := L2.FunD.bindsA (ps := ["script"]) F fun _ _ _ _ _ _ us hl => match us, hl with | [_], _ => rfl
    refine ⟨K, fd, FV.Hd.spLaw K, KX, fun s v => b s [v] rfl, fun H a ns hln _ hS => ⟨a, ns, rfl, hln, hS, fun _ => rfl⟩, fun base kb gb => ?_⟩
    have o := FV.Hd.layOk c.facts.1
    subst eq
    exact FV.Hd.law_ok (L := K03.lay.lw (K03.RW).prog w K mg base) (N := K03.n_law) (ps := K03.p_law) (f := 30) (F := K03.f_law) (FV.Hd.gd_of KX G o) (FV.Hd.rs_of o (K03.inits c o)) (K03.calls c KX G) rfl nl F ⟨rfl, rfl, rfl, by decide +kernel, rfl, by decide +kernel, by decide +kernel⟩ (fun _ _ _ _ _ _ us hl => match us, hl with | [_], _ => rfl) rfl rfl (by kernel_rfl) hl

/-! Running the small language by rewriting. -/
namespace FV
namespace Q
open PySem


/-- what stands behind a step waits until the step is known -/
inductive Ph {α : Type} (a : α) : Type | mk
def bnd {α β : Type} (r : R α) (f : α → Hb → R β) (_ : Ph f) : R β := r.bind f
theorem bnd_ok {α β : Type} (a : α) (h : Hb) (f : α → Hb → R β) (w : Ph f) : bnd (.ok a h) f w = f a h := rfl
theorem bnd_ex {α β : Type} (c : Nat) (ns : List Nat) (vs : List D) (h : Hb) (f : α → Hb → R β) (w : Ph f) : bnd (.ex c ns vs h) f w = .ex c ns vs h := rfl
theorem bnd_st {α β : Type} (f : α → Hb → R β) (w : Ph f) : bnd .st f w = .st := rfl
def frm {α : Type} (r : R α) (σ : Env) (f : α → Hb → Out) (_ : Ph f) : Out := fromR r σ f
theorem frm_ok {α : Type} (a : α) (h : Hb) (σ : Env) (f : α → Hb → Out) (w : Ph f) : frm (.ok a h) σ f w = f a h := rfl
theorem frm_ex {α : Type} (c : Nat) (ns : List Nat) (vs : List D) (h : Hb) (σ : Env) (f : α → Hb → Out) (w : Ph f) : frm (.ex c ns vs h) σ f w = .ex c ns vs σ h := rfl
theorem frm_st {α : Type} (σ : Env) (f : α → Hb → Out) (w : Ph f) : frm .st σ f w = .st := rfl
def thn (o : Out) (f : Env → Hb → Out) (_ : Ph f) : Out := o.andThen f
theorem thn_nx (σ : Env) (h : Hb) (f : Env → Hb → Out) (w : Ph f) : thn (.nx σ h) f w = f σ h := rfl
theorem thn_rt (d : D) (h : Hb) (f : Env → Hb → Out) (w : Ph f) : thn (.rt d h) f w = .rt d h := rfl
theorem thn_ex (c : Nat) (ns : List Nat) (vs : List D) (σ : Env) (h : Hb) (f : Env → Hb → Out) (w : Ph f) : thn (.ex c ns vs σ h) f w = .ex c ns vs σ h := rfl
theorem thn_st (f : Env → Hb → Out) (w : Ph f) : thn .st f w = .st := rfl
def trO (o : Out) (f : Nat → List Nat → List D → Env → Hb → Out) (_ : Ph f) : Out := match o with
  | .ex c ns vs σ' h' => f c ns vs σ' h'
  | o => o
theorem trO_ex (c : Nat) (ns : List Nat) (vs : List D) (σ : Env) (h : Hb) (f : Nat → List Nat → List D → Env → Hb → Out) (w : Ph f) : trO (.ex c ns vs σ h) f w = f c ns vs σ h := rfl
theorem trO_nx (σ : Env) (h : Hb) (f : Nat → List Nat → List D → Env → Hb → Out) (w : Ph f) : trO (.nx σ h) f w = .nx σ h := rfl
theorem trO_rt (d : D) (h : Hb) (f : Nat → List Nat → List D → Env → Hb → Out) (w : Ph f) : trO (.rt d h) f w = .rt d h := rfl
section
variable {cf : Cf} {i j f c g : Nat} {a b d e : Ex} {o p : O1} {o2 p2 : O2} {σ : Env} {h : Hb} {as : As} {xs : Xs} {k : Bool} {own tg : List Nat} {it : Src}
theorem e_var : evE cf (.var i) σ h = optV (getV σ i) h := by first | (rw [evE]; done) | (rw [evE]; rfl)
theorem e_non : evE cf .non σ h = .ok .non h := by first | (rw [evE]; done) | (rw [evE]; rfl)
theorem e_bl : evE cf (.bl k) σ h = .ok (.bl k) h := by first | (rw [evE]; done) | (rw [evE]; rfl)
theorem e_int {z : Int} : evE cf (.int z) σ h = .ok (.int z) h := by first | (rw [evE]; done) | (rw [evE]; rfl)
theorem e_str {x : Cs} : evE cf (.str x) σ h = .ok (.str x) h := by first | (rw [evE]; done) | (rw [evE]; rfl)
theorem e_glo : evE cf (.glo g) σ h = optV (cf.glo g) h := by first | (rw [evE]; done) | (rw [evE]; rfl)
theorem e_op1 : evE cf (.op1 o a) σ h = bnd (evE cf a σ h) (fun x h => if cf.hot && calm1 o then .st else sem1 o x h) .mk := by first | (rw [evE]; done) | (rw [evE]; rfl)
theorem e_op2 : evE cf (.op2 o2 a b) σ h = bnd (evE cf a σ h) (fun x h => if recv o2 x h then bnd (evE cf b σ h) (fun y h => if cf.hot && calm2 o2 then .st else sem2 cf.m o2 x y h) .mk else .st) .mk := by first | (rw [evE]; done) | (rw [evE]; rfl)
theorem e_op3 {o3 : O3} : evE cf (.op3 o3 a b d) σ h = bnd (evE cf a σ h) (fun x h => bnd (evE cf b σ h) (fun y h => if isI y then bnd (evE cf d σ h) (fun z h => sem3 o3 x y z h) .mk else .st) .mk) .mk := by first | (rw [evE]; done) | (rw [evE]; rfl)
theorem e_cmp : evE cf (.cmp o2 a b) σ h = bnd (evE cf a σ h) (fun x h => bnd (evE cf b σ h) (fun y h => sem2 cf.m o2 x y h) .mk) .mk := by first | (rw [evE]; done) | (rw [evE]; rfl)
theorem e_cmp3 : evE cf (.cmp3 o2 p2 a b d) σ h = bnd (evE cf a σ h) (fun x h => bnd (evE cf b σ h) (fun y h => bnd (sem2 cf.m o2 x y h) (fun k h =>
    match k with
    | .bl true => bnd (evE cf d σ h) (fun z h => sem2 cf.m p2 y z h) .mk
    | .bl false => .ok (.bl false) h
    | _ => .st) .mk) .mk) .mk := by first | (rw [evE]; done) | (rw [evE]; rfl)
theorem e_and : evE cf (.and a b) σ h = bnd (evE cf a σ h) (fun x h => match truth h x with
    | some true => evE cf b σ h
    | some false => .ok x h
    | none => .st) .mk := by first | (rw [evE]; done) | (rw [evE]; rfl)
theorem e_or : evE cf (.or a b) σ h = bnd (evE cf a σ h) (fun x h => match truth h x with
    | some true => .ok x h
    | some false => evE cf b σ h
    | none => .st) .mk := by first | (rw [evE]; done) | (rw [evE]; rfl)
theorem e_not : evE cf (.not a) σ h = bnd (evE cf a σ h) (fun x h => match truth h x with
    | some k => .ok (.bl (!k)) h
    | none => .st) .mk := by first | (rw [evE]; done) | (rw [evE]; rfl)
theorem e_ite : evE cf (.ite d a b) σ h = bnd (evT cf d σ h) (fun k h => if k then evE cf a σ h else evE cf b σ h) .mk := by first | (rw [evE]; done) | (rw [evE]; rfl)
theorem e_tup : evE cf (.tup xs) σ h = bnd (evXs cf xs σ h) (fun xs h => if xs.length ≤ lineN then .ok (.tup xs) h else .st) .mk := by first | (rw [evE]; done) | (rw [evE]; rfl)
theorem e_lst : evE cf (.lst k xs) σ h = bnd (evXs cf xs σ h) (fun xs h => if xs.length ≤ lineN then mkL k xs h else .st) .mk := by first | (rw [evE]; done) | (rw [evE]; rfl)
theorem e_dct0 : evE cf (.dct0 k) σ h = if k then .ok (.box h.length) (h ++ [some (.dic [] [])]) else .ok (.dic [] []) h := by first | (rw [evE]; done) | (rw [evE]; rfl)
theorem e_set0 : evE cf (.set0 k) σ h = if k then .ok (.box h.length) (h ++ [some (.set [])]) else .ok (.set []) h := by first | (rw [evE]; done) | (rw [evE]; rfl)
theorem e_call : evE cf (.call f as) σ h = bnd (evAs cf as σ h) (fun xs h => cf.call cf.hot f xs h) .mk := by first | (rw [evE]; done) | (rw [evE]; rfl)
theorem e_new : evE cf (.new c xs) σ h = bnd (evXs cf xs σ h) (fun xs h => if cf.hot then .st else cf.new c xs h) .mk := by first | (rw [evE]; done) | (rw [evE]; rfl)
theorem e_fld : evE cf (.fld a f) σ h = bnd (evE cf a σ h) (fun x h => match insV h x with
    | some (_, ns, vs) => optV ((ns.zip vs).lookup f) h
    | none => .st) .mk := by first | (rw [evE]; done) | (rw [evE]; rfl)
theorem e_lc : evE cf (.lc k own tg it d e) σ h = if cf.hot then .st else bnd (evSrc cf it σ h) (fun p h => bnd (lcGo tg (wipeE σ own) (stays h p.1) (evT cf d) (evE cf e) p.2 [] h) (fun xs h' => mkL k xs h') .mk) .mk := by first | (rw [evE]; done) | (rw [evE]; rfl)
theorem e_dc : evE cf (.dc k own tg it d a e) σ h = if cf.hot then .st else bnd (evSrc cf it σ h) (fun p h => bnd (dcGo tg (wipeE σ own) (stays h p.1) (evT cf d) (evE cf a) (evE cf e) p.2 [] [] h) (mkD k) .mk) .mk := by first | (rw [evE]; done) | (rw [evE]; rfl)
theorem e_isE : evE cf (.isE i c) σ h = match getX σ i with
    | some (x, _, _) => .ok (.bl (cf.sub x c)) h
    | none => .st := by first | (rw [evE]; done) | (rw [evE]; rfl)
theorem e_isV : evE cf (.isV i) σ h = match getX σ i with
    | some (x, _, _) => .ok (.bl (cf.sve x)) h
    | none => .st := by first | (rw [evE]; done) | (rw [evE]; rfl)
theorem e_atE : evE cf (.atE i f) σ h = match getX σ i with
    | some (_, ns, vs) => optV ((ns.zip vs).lookup f) h
    | none => .st := by first | (rw [evE]; done) | (rw [evE]; rfl)
theorem t_cmp : evT cf (.cmp o2 a b) σ h = bnd (evE cf a σ h) (fun x h => bnd (evE cf b σ h) (fun y h => bnd (sem2 cf.m o2 x y h) (fun k h =>
    match k with
    | .bl k => .ok k h
    | _ => .st) .mk) .mk) .mk := by first | (rw [evT]; done) | (rw [evT]; rfl)
theorem t_cmp3 : evT cf (.cmp3 o2 p2 a b d) σ h = bnd (evE cf a σ h) (fun x h => bnd (evE cf b σ h) (fun y h => bnd (sem2 cf.m o2 x y h) (fun k h =>
    match k with
    | .bl true => bnd (evE cf d σ h) (fun z h => bnd (sem2 cf.m p2 y z h) (fun k h =>
      match k with
      | .bl k => .ok k h
      | _ => .st) .mk) .mk
    | .bl false => .ok false h
    | _ => .st) .mk) .mk) .mk := by first | (rw [evT]; done) | (rw [evT]; rfl)
theorem t_and : evT cf (.and a b) σ h = bnd (evT cf a σ h) (fun k h => if k then evT cf b σ h else .ok false h) .mk := by first | (rw [evT]; done) | (rw [evT]; rfl)
theorem t_or : evT cf (.or a b) σ h = bnd (evT cf a σ h) (fun k h => if k then .ok true h else evT cf b σ h) .mk := by first | (rw [evT]; done) | (rw [evT]; rfl)
theorem t_not : evT cf (.not a) σ h = bnd (evT cf a σ h) (fun k h => .ok (!k) h) .mk := by first | (rw [evT]; done) | (rw [evT]; rfl)
theorem t_ite : evT cf (.ite d a b) σ h = bnd (evT cf d σ h) (fun k h => if k then evT cf a σ h else evT cf b σ h) .mk := by first | (rw [evT]; done) | (rw [evT]; rfl)
theorem t_var : evT cf (.var i) σ h = match getV σ i with
    | some d => truthR d h
    | none => .st := by first | (rw [evT]; done) | (rw [evT]; rfl)
theorem t_bl : evT cf (.bl k) σ h = .ok k h := by first | (rw [evT]; done) | (rw [evT]; rfl)
theorem t_op1 : evT cf (.op1 o a) σ h = bnd (evE cf a σ h) (fun x h => bnd (if cf.hot && calm1 o then .st else sem1 o x h) truthR .mk) .mk := by first | (rw [evT]; done) | (rw [evT]; rfl)
theorem t_op2 : evT cf (.op2 o2 a b) σ h = bnd (evE cf a σ h) (fun x h => if recv o2 x h then bnd (evE cf b σ h) (fun y h => bnd (if cf.hot && calm2 o2 then .st else sem2 cf.m o2 x y h) truthR .mk) .mk else .st) .mk := by first | (rw [evT]; done) | (rw [evT]; rfl)
theorem t_call : evT cf (.call f as) σ h = bnd (evAs cf as σ h) (fun xs h => bnd (cf.call cf.hot f xs h) truthR .mk) .mk := by first | (rw [evT]; done) | (rw [evT]; rfl)
theorem t_fld : evT cf (.fld a f) σ h = bnd (evE cf a σ h) (fun x h => match insV h x with
    | some (_, ns, vs) => bnd (optV ((ns.zip vs).lookup f) h) truthR .mk
    | none => .st) .mk := by first | (rw [evT]; done) | (rw [evT]; rfl)
theorem t_isE : evT cf (.isE i c) σ h = match getX σ i with
    | some (x, _, _) => .ok (cf.sub x c) h
    | none => .st := by first | (rw [evT]; done) | (rw [evT]; rfl)
theorem t_isV : evT cf (.isV i) σ h = match getX σ i with
    | some (x, _, _) => .ok (cf.sve x) h
    | none => .st := by first | (rw [evT]; done) | (rw [evT]; rfl)
theorem x_nil : evXs cf .nil σ h = .ok [] h := by first | (rw [evXs]; done) | (rw [evXs]; rfl)
theorem x_cons : evXs cf (.cons a xs) σ h = bnd (evE cf a σ h) (fun x h => bnd (evXs cf xs σ h) (fun ys h => .ok (x :: ys) h) .mk) .mk := by first | (rw [evXs]; done) | (rw [evXs]; rfl)
theorem a_nil : evAs cf .nil σ h = .ok [] h := by first | (rw [evAs]; done) | (rw [evAs]; rfl)
theorem a_ex : evAs cf (.ex a as) σ h = bnd (evE cf a σ h) (fun x h => bnd (evAs cf as σ h) (fun ys h => .ok (.v x :: ys) h) .mk) .mk := by first | (rw [evAs]; done) | (rw [evAs]; rfl)
theorem a_ec : evAs cf (.ec i as) σ h = match getX σ i with
    | some (c, ns, vs) => bnd (evAs cf as σ h) (fun xs h => .ok (.x c ns vs :: xs) h) .mk
    | none => .st := by first | (rw [evAs]; done) | (rw [evAs]; rfl)
theorem r_e : evSrc cf (.e a) σ h = bnd (evE cf a σ h) (fun d h => match items h d with
    | some xs => .ok (d, xs) h
    | none => .st) .mk := by first | (rw [evSrc]; done) | (rw [evSrc]; rfl)
theorem r_rng1 : evSrc cf (.rng1 a) σ h = bnd (evE cf a σ h) (fun d h => match d with
    | .int j => if inR j then .ok (.non, rngL 0 j.toNat) h else .st
    | _ => .st) .mk := by first | (rw [evSrc]; done) | (rw [evSrc]; rfl)
theorem r_rng2 : evSrc cf (.rng2 a b) σ h = bnd (evE cf a σ h) (fun d h => bnd (evE cf b σ h) (fun e h => match d, e with
    | .int i, .int j => if inR i && inR j then .ok (.non, rngL i (j - i).toNat) h else .st
    | _, _ => .st) .mk) .mk := by first | (rw [evSrc]; done) | (rw [evSrc]; rfl)
variable {s : Sm} {u v : Sms} {hs : Hs}
theorem s_expr : evS cf (.expr e) σ h = frm (evE cf e σ h) σ (fun _ h => .nx σ h) .mk := by first | (rw [evS]; done) | (rw [evS]; rfl)
theorem s_set : evS cf (.set i e) σ h = frm (evE cf e σ h) σ (fun d h => .nx (σ.set i (some (.v d))) h) .mk := by first | (rw [evS]; done) | (rw [evS]; rfl)
theorem s_unp {is : List Nat} : evS cf (.unp is e) σ h = if cf.hot then .st else frm (evE cf e σ h) σ (fun d h => match bindT h σ is d with
    | some σ' => if 2 ≤ is.length then .nx σ' h else .st
    | none => .st) .mk := by first | (rw [evS]; done) | (rw [evS]; rfl)
theorem s_seti : evS cf (.seti a b d) σ h = frm (evE cf d σ h) σ (fun x h => frm (evE cf a σ h) σ (fun od h => frm (evE cf b σ h) σ (fun id h => match setiB cf.m h od id x with
    | some h' => .nx σ h'
    | none => .st) .mk) .mk) .mk := by first | (rw [evS]; done) | (rw [evS]; rfl)
theorem s_setf : evS cf (.setf a f d) σ h = frm (evE cf d σ h) σ (fun x h => frm (evE cf a σ h) σ (fun od h => match setfB cf.m h od f x with
    | some h' => .nx σ h'
    | none => .st) .mk) .mk := by first | (rw [evS]; done) | (rw [evS]; rfl)
theorem s_ret : evS cf (.ret e) σ h = frm (evE cf e σ h) σ (fun d h => .rt d h) .mk := by first | (rw [evS]; done) | (rw [evS]; rfl)
theorem s_raise : evS cf (.raise c xs) σ h = if cf.hot then .st else frm (evXs cf xs σ h) σ (fun xs h =>
    if (cf.exn c).2 = xs.length ∨ (cf.exn c).1 = [] then .ex c (cf.exn c).1 (if (cf.exn c).1 = [] then [] else xs) σ h else .st) .mk := by first | (rw [evS]; done) | (rw [evS]; rfl)
theorem s_ite : evS cf (.ite e u v) σ h = frm (evT cf e σ h) σ (fun k h => if k then evSs cf u σ h else evSs cf v σ h) .mk := by first | (rw [evS]; done) | (rw [evS]; rfl)
theorem s_whl : evS cf (.whl e u) σ h = whl (evT cf e) (evSs cf u) σ h := by first | (rw [evS]; done) | (rw [evS]; rfl)
theorem s_for (hh : cf.hot = false) : evS cf (.for tg it u) σ h = frm (evSrc cf it σ h) σ (fun p h => forGo tg (stays h p.1) (evSs cf u) p.2 σ h) .mk := by
  rw [evS]
  · rfl
  all_goals (intros; simp_all)
theorem s_tr : evS cf (.tr u hs) σ h = if cf.hot then .st else trO (evSs cf u σ h) (fun c ns vs σ' h' => evH cf hs c ns vs σ' h') .mk := by first | (rw [evS]; done) | (rw [evS]; rfl)
theorem s_pass : evS cf .pass σ h = .nx σ h := by first | (rw [evS]; done) | (rw [evS]; rfl)
theorem ss_nil : evSs cf .nil σ h = .nx σ h := by first | (rw [evSs]; done) | (rw [evSs]; rfl)
theorem ss_cons : evSs cf (.cons s u) σ h = thn (evS cf s σ h) (evSs cf u) .mk := by first | (rw [evSs]; done) | (rw [evSs]; rfl)
end

theorem cfN_hot (T : Tb) (n : Nat) (hot : Bool) (m : Nat) : (cfN T n hot m).hot = hot := rfl
theorem cfN_m (T : Tb) (n : Nat) (hot : Bool) (m : Nat) : (cfN T n hot m).m = m := rfl
theorem cfN_call (T : Tb) (n : Nat) (hot : Bool) (m : Nat) : (cfN T n hot m).call = fun k => callN T n k m := rfl
theorem cfN_glo (T : Tb) (n : Nat) (hot : Bool) (m : Nat) : (cfN T n hot m).glo = T.glo := rfl
theorem cfN_sub (T : Tb) (n : Nat) (hot : Bool) (m : Nat) : (cfN T n hot m).sub = T.sub := rfl
theorem cfN_sve (T : Tb) (n : Nat) (hot : Bool) (m : Nat) : (cfN T n hot m).sve = T.sve := rfl
theorem cfN_exn (T : Tb) (n : Nat) (hot : Bool) (m : Nat) : (cfN T n hot m).exn = T.exn := rfl

theorem callF {T : Tb} {n f mc : Nat} {xs : List Sl} {h : Hb} {F : Fn} (hf : T.fn f = some F) (hk : F.keep = false) (hl : xs.length = F.np) (hx : noX xs = true) :
    callN T (n + 1) false mc f xs h = exitF false h.length (evSs (cfN T n false h.length) F.body (startE F.ns xs) h) := by
  rw [callN_eq]
  simp only [hf]
  rw [if_pos ⟨hl, .inr hx⟩]
  simp [base, hk]
theorem callK {T : Tb} {n f mc : Nat} {xs : List Sl} {h : Hb} {F : Fn} (hf : T.fn f = some F) (hk : F.keep = true) (hl : xs.length = F.np) (hx : noX xs = true) :
    callN T (n + 1) false mc f xs h = exitF true mc (evSs (cfN T n false mc) F.body (startE F.ns xs) h) := by
  rw [callN_eq]
  simp only [hf]
  rw [if_pos ⟨hl, .inr hx⟩]
  simp [base, hk]
theorem callH {T : Tb} {n f mc : Nat} {xs : List Sl} {h : Hb} {F : Fn} (hf : T.fn f = some F) (hk : F.keep = false) (hl : xs.length = F.np) :
    callN T (n + 1) true mc f xs h = exitF false h.length (evSs (cfN T n true h.length) F.body (startE F.ns xs) h) := by
  rw [callN_eq]
  simp only [hf]
  rw [if_pos ⟨hl, by simp⟩]
  simp [base, hk]

theorem bx_lt {h : Hb} {j : Nat} {o : Ob} (e : bx h j = some o) : j < h.length := by
  unfold bx at e
  by_cases hj : j < h.length
  · exact hj
  · rw [List.getElem?_eq_none (by omega)] at e; cases e
theorem bx_set {h : Hb} {j : Nat} {o : Ob} (e : j < h.length) : bx (h.set j (some o)) j = some o := by
  simp [bx, e]
theorem bx_set_ne {h : Hb} {i j : Nat} {o : Option Ob} (e : i ≠ j) : bx (h.set i o) j = bx h j := by
  simp [bx, List.getElem?_set_ne e]
theorem bx_app {h : Hb} {o : Ob} : bx (h ++ [some o]) h.length = some o := by
  simp [bx]
theorem bx_app_lt {h t : Hb} {j : Nat} (e : j < h.length) : bx (h ++ t) j = bx h j := by
  simp [bx, List.getElem?_append_left e]
theorem atI_nat' {α : Type} (xs : List α) (k : Nat) : L2.atI xs (k : Int) = xs[k]? := by
  unfold L2.atI L2.ixN
  rw [if_pos (by omega)]
  by_cases h : k < xs.length
  · rw [if_pos (by omega)]; rfl
  · rw [if_neg (by omega), List.getElem?_eq_none (by omega)]; rfl
theorem atI_0 {α : Type} (xs : List α) : L2.atI xs (0 : Int) = xs[0]? := atI_nat' xs 0
theorem atI_1 {α : Type} (xs : List α) : L2.atI xs (1 : Int) = xs[1]? := atI_nat' xs 1
theorem atI_2 {α : Type} (xs : List α) : L2.atI xs (2 : Int) = xs[2]? := atI_nat' xs 2
theorem atI_3 {α : Type} (xs : List α) : L2.atI xs (3 : Int) = xs[3]? := atI_nat' xs 3
theorem atI_4 {α : Type} (xs : List α) : L2.atI xs (4 : Int) = xs[4]? := atI_nat' xs 4
theorem atI_5 {α : Type} (xs : List α) : L2.atI xs (5 : Int) = xs[5]? := atI_nat' xs 5
theorem atI_6 {α : Type} (xs : List α) : L2.atI xs (6 : Int) = xs[6]? := atI_nat' xs 6
theorem atI_7 {α : Type} (xs : List α) : L2.atI xs (7 : Int) = xs[7]? := atI_nat' xs 7
theorem atI_8 {α : Type} (xs : List α) : L2.atI xs (8 : Int) = xs[8]? := atI_nat' xs 8
theorem atI_9 {α : Type} (xs : List α) : L2.atI xs (9 : Int) = xs[9]? := atI_nat' xs 9
theorem atI_10 {α : Type} (xs : List α) : L2.atI xs (10 : Int) = xs[10]? := atI_nat' xs 10
theorem atI_11 {α : Type} (xs : List α) : L2.atI xs (11 : Int) = xs[11]? := atI_nat' xs 11
theorem atI_12 {α : Type} (xs : List α) : L2.atI xs (12 : Int) = xs[12]? := atI_nat' xs 12

/-- a value without boxes -/
abbrev nb (d : D) : Prop := below 0 d = true
mutual
theorem fzD_nb (g : Nat → Option D) : ∀ d : D, below 0 d = true → fzD g d = some d
  | .non, _ => rfl
  | .bl _, _ => rfl
  | .int _, _ => rfl
  | .str _, _ => rfl
  | .set _, _ => rfl
  | .tup xs, e => by
    have := fzDs_nb g xs (by simpa [below] using e)
    simp [fzD, this]
  | .lst xs, e => by
    have := fzDs_nb g xs (by simpa [below] using e)
    simp [fzD, this]
  | .dic ks vs, e => by
    have := fzDs_nb g vs (by simpa [below] using e)
    simp [fzD, this]
  | .ins c ns vs, e => by
    have := fzDs_nb g vs (by simpa [below] using e)
    simp [fzD, this]
  | .box i, e => by simp [below] at e
theorem fzDs_nb (g : Nat → Option D) : ∀ ds : List D, belows 0 ds = true → fzDs g ds = some ds
  | [], _ => rfl
  | d :: r, e => by
    simp only [belows, Bool.and_eq_true] at e
    simp [fzDs, fzD_nb g d e.1, fzDs_nb g r e.2]
end
theorem fz_nb {m : Nat} {h : Hb} {d : D} (e : nb d) : fz m h d = some d := fzD_nb _ d e
theorem fzs_nb {m : Nat} {h : Hb} {ds : List D} (e : belows 0 ds = true) : fzs m h ds = some ds := fzDs_nb _ ds e
theorem fz_box {m : Nat} {h : Hb} {i : Nat} {xs : List D} (hm : m ≤ i) (hb : bx h i = some (.lst xs)) (e : belows 0 xs = true) : fz m h (.box i) = some (.lst xs) := by
  have : ¬ i < m := by omega
  simp [fz, fzD, fzB, this, hb, fzDs_nb _ xs e]
theorem exit_rt {m : Nat} {d : D} {h h0 : Hb} (e : nb d) (t : h.take m = h0) : exitF false m (.rt d h) = .ok d h0 := by
  simp [exitF, fz_nb e, t]
theorem exit_rtL {i m : Nat} {xs : List D} {h h0 : Hb} (hm : m ≤ i) (hb : bx h i = some (.lst xs)) (e : belows 0 xs = true) (t : h.take m = h0) : exitF false m (.rt (.box i) h) = .ok (.lst xs) h0 := by
  simp [exitF, fz_box hm hb e, t]
theorem exit_nx {m : Nat} {σ : Env} {h h0 : Hb} (t : h.take m = h0) : exitF false m (.nx σ h) = .ok .non h0 := by
  simp [exitF, t]
theorem exit_ex {m c : Nat} {ns : List Nat} {vs : List D} {σ : Env} {h h0 : Hb} (e : belows 0 vs = true) (t : h.take m = h0) : exitF false m (.ex c ns vs σ h) = .ex c ns vs h0 := by
  simp [exitF, fzs_nb e, t]

theorem belows_all {m : Nat} : ∀ {xs : List D}, belows m xs = true ↔ ∀ x ∈ xs, below m x = true
  | [] => by simp [belows]
  | d :: r => by simp [belows, belows_all (xs := r)]
mutual
theorem below_mono {m k : Nat} (h : m ≤ k) : ∀ d : D, below m d = true → below k d = true
  | .non, _ => rfl
  | .bl _, _ => rfl
  | .int _, _ => rfl
  | .str _, _ => rfl
  | .set _, _ => rfl
  | .tup xs, e => by simp only [below] at e ⊢; exact belows_mono h xs e
  | .lst xs, e => by simp only [below] at e ⊢; exact belows_mono h xs e
  | .dic ks vs, e => by simp only [below] at e ⊢; exact belows_mono h vs e
  | .ins c ns vs, e => by simp only [below] at e ⊢; exact belows_mono h vs e
  | .box i, e => by simp [below] at e ⊢; omega
theorem belows_mono {m k : Nat} (h : m ≤ k) : ∀ ds : List D, belows m ds = true → belows k ds = true
  | [], _ => rfl
  | d :: r, e => by
    simp only [belows, Bool.and_eq_true] at e ⊢
    exact ⟨below_mono h d e.1, belows_mono h r e.2⟩
end
theorem take_set_ge {α : Type} {l : List α} {i m : Nat} {a : α} (e : m ≤ i) : (l.set i a).take m = l.take m := by
  rw [List.take_set_of_le e]

theorem arith_pos {c : Int → Int → Prop} [∀ i j, Decidable (c i j)] {f : Int → Int → Int} {i j : Int} {h : Hb} (e : c i j) : arith c f (.int i) (.int j) h = .ok (.int (f i j)) h := by
  simp [arith, e]
theorem forGo_rule {tg : List Nat} {st : Hb → Bool} {b : Env → Hb → Out} (P : List D → Env → Hb → Prop) (Q : D → Hb → Prop)
    (hs : ∀ xs σ h, P xs σ h → st h = true)
    (hb : ∀ x r σ h, P (x :: r) σ h → ∃ σ1, bindT h σ tg x = some σ1 ∧ ((∃ σ' h', b σ1 h = .nx σ' h' ∧ P r σ' h') ∨ ∃ d h', b σ1 h = .rt d h' ∧ Q d h')) :
    ∀ xs σ h, P xs σ h → (∃ σ' h', forGo tg st b xs σ h = .nx σ' h' ∧ P [] σ' h') ∨ ∃ d h', forGo tg st b xs σ h = .rt d h' ∧ Q d h'
  | [], σ, h, p => .inl ⟨σ, h, by simp [forGo, hs _ _ _ p], p⟩
  | x :: r, σ, h, p => by
    obtain ⟨σ1, e1, e2⟩ := hb x r σ h p
    simp only [forGo, hs _ _ _ p, if_true, e1]
    rcases e2 with ⟨σ', h', e, p'⟩ | ⟨d, h', e, q⟩
    · rw [e]
      exact forGo_rule P Q hs hb r σ' h' p'
    · exact .inr ⟨d, h', by rw [e]; rfl, q⟩
/-- a loop without a return -/
theorem forGo_nx {tg : List Nat} {st : Hb → Bool} {b : Env → Hb → Out} (P : List D → Env → Hb → Prop)
    (hs : ∀ xs σ h, P xs σ h → st h = true)
    (hb : ∀ x r σ h, P (x :: r) σ h → ∃ σ1, bindT h σ tg x = some σ1 ∧ ∃ σ' h', b σ1 h = .nx σ' h' ∧ P r σ' h') (xs : List D) (σ : Env) (h : Hb) (p : P xs σ h) :
    ∃ σ' h', forGo tg st b xs σ h = .nx σ' h' ∧ P [] σ' h' := by
  rcases forGo_rule P (fun _ _ => False) hs (fun x r σ h p => by
    obtain ⟨σ1, e1, e2⟩ := hb x r σ h p
    exact ⟨σ1, e1, .inl e2⟩) xs σ h p with e | ⟨_, _, _, e⟩
  · exact e
  · exact e.elim
theorem stays_non (h0 h : Hb) : stays h0 .non h = true := rfl
theorem stays_non' (h0 : Hb) : stays h0 .non = fun _ => true := rfl
theorem stays_lst' (h0 : Hb) (xs : List D) : stays h0 (.lst xs) = fun _ => true := rfl
theorem stays_str' (h0 : Hb) (xs : Cs) : stays h0 (.str xs) = fun _ => true := rfl
theorem stays_tup' (h0 : Hb) (xs : List D) : stays h0 (.tup xs) = fun _ => true := rfl
theorem stays_dic' (h0 : Hb) (ks : List Kk) (vs : List D) : stays h0 (.dic ks vs) = fun _ => true := rfl
theorem stays_lst (h0 h : Hb) (xs : List D) : stays h0 (.lst xs) h = true := rfl
theorem stays_str (h0 h : Hb) (xs : Cs) : stays h0 (.str xs) h = true := rfl
theorem stays_tup (h0 h : Hb) (xs : List D) : stays h0 (.tup xs) h = true := rfl
theorem stays_dic (h0 h : Hb) (ks : List Kk) (vs : List D) : stays h0 (.dic ks vs) h = true := rfl

/-- a comprehension that changes nothing -/
theorem lcGo_pure {tg : List Nat} {σ : Env} {st : Hb → Bool} {c : Env → Hb → R Bool} {e : Env → Hb → R D} (p : D → Bool) (f : D → D) (h : Hb) (hs : st h = true) :
    ∀ (xs acc : List D), (∀ x ∈ xs, ∃ σ1, bindT h σ tg x = some σ1 ∧ c σ1 h = .ok (p x) h ∧ (p x = true → e σ1 h = .ok (f x) h)) → acc.length + xs.length ≤ lineN →
      lcGo tg σ st c e xs acc h = .ok (acc ++ (xs.filter p).map f) h
  | [], acc, _, _ => by simp [lcGo, hs]
  | x :: r, acc, H, hl => by
    obtain ⟨σ1, e1, e2, e3⟩ := H x (by simp)
    simp only [lcGo, hs, if_true, e1, e2, R.nox_ok, R.bind_ok]
    have Hr : ∀ y ∈ r, ∃ σ1, bindT h σ tg y = some σ1 ∧ c σ1 h = .ok (p y) h ∧ (p y = true → e σ1 h = .ok (f y) h) := fun y hy => H y (by simp [hy])
    cases hp : p x with
    | true =>
      simp only [if_true, e3 hp, R.nox_ok, R.bind_ok]
      rw [if_pos (by simp at hl; omega), lcGo_pure p f h hs r (acc ++ [f x]) Hr (by simp at hl ⊢; omega)]
      simp [hp]
    | false =>
      simp only [Bool.false_eq_true, if_false]
      rw [lcGo_pure p f h hs r acc Hr (by simp at hl ⊢; omega)]
      simp [hp]

theorem cut_to {α : Type} (xs : List α) (k : Nat) : cut xs none (some (k : Int)) = xs.take k := by
  unfold cut
  rw [HT.sIx_nat, HT.sIx_none]
  simp [List.take_eq_take_iff]
theorem cut_from {α : Type} (xs : List α) (k : Nat) : cut xs (some (k : Int)) none = xs.drop k := by
  unfold cut
  rw [HT.sIx_nat, HT.sIx_none]
  by_cases h : k ≤ xs.length
  · rw [Nat.min_eq_left h, List.take_of_length_le (by simp)]
  · rw [Nat.min_eq_right (by omega), List.drop_of_length_le (Nat.le_refl _), List.drop_of_length_le (by omega)]; simp
theorem eqvs_self : True := trivial
theorem any_str (t : List Cs) (x : Cs) : ((t.map D.str).any fun y => eqv y (.str x)) = decide (x ∈ t) := by
  induction t with
  | nil => simp
  | cons a t ih => 
    simp only [List.map_cons, List.any_cons, ih, eqv]
    by_cases e : a = x
    · simp [e]
    · have : ¬ x = a := fun h => e h.symm
      simp [e, this]
theorem inD_strs (h : Hb) (t : List Cs) (x : Cs) : inD h (.str x) (.lst (t.map .str)) = some (decide (x ∈ t)) := by
  have : (t.map D.str).all flat = true := by simp [flat]
  simp only [inD, setV, seqL, this, any_str]
  rfl
theorem rngL_length (lo : Int) (n : Nat) : (rngL lo n).length = n := by simp [rngL]
theorem rngL_cons (lo : Int) (n : Nat) : rngL lo (n + 1) = .int lo :: rngL (lo + 1) n := by
  simp only [rngL, List.range_succ_eq_map, List.map_cons, List.map_map]
  refine List.cons_eq_cons.2 ⟨by simp, List.map_congr_left fun k _ => ?_⟩
  simp [Function.comp]; omega
theorem rngL_zero (lo : Int) : rngL lo 0 = [] := rfl

theorem eqD_int (a b : Int) : eqD (.int a) (.int b) = some (decide (a = b)) := rfl
theorem eqD_str (a b : Cs) : eqD (.str a) (.str b) = some (decide (a = b)) := by
  simp only [eqD, scalD, Bool.true_or, if_true, eqv]
  exact congrArg some (by by_cases e : a = b <;> simp [e])
/-- a comprehension over a range -/
theorem lc_rng {i : Nat} {σ : Env} {c : Env → Hb → R Bool} {e : Env → Hb → R D} (p : Nat → Bool) (g : Nat → D) {h : Hb} {n : Nat} (hn : n ≤ lineN)
    (H : ∀ k, k < n → c (σ.set i (some (.v (.int k)))) h = .ok (p k) h ∧ (p k = true → e (σ.set i (some (.v (.int k)))) h = .ok (g k) h)) :
    lcGo [i] σ (fun _ => true) c e (rngL 0 n) [] h = .ok (((List.range n).filter p).map g) h := by
  have e0 : rngL 0 n = (List.range n).map fun (k : Nat) => D.int (k : Int) := by simp [rngL]
  rw [lcGo_pure (fun d => match d with | .int k => p k.toNat | _ => false) (fun d => match d with | .int k => g k.toNat | _ => .non) h rfl (rngL 0 n) [] (by
    intro x hx
    rw [e0] at hx
    obtain ⟨k, hk, rfl⟩ := List.mem_map.1 hx
    have := H k (List.mem_range.1 hk)
    exact ⟨_, rfl, this.1, this.2⟩) (by simpa [rngL_length] using hn)]
  rw [List.nil_append, e0, List.filter_map, List.map_map]
  rfl
/-- a comprehension over strings -/
theorem lc_strs {i : Nat} {σ : Env} {c : Env → Hb → R Bool} {e : Env → Hb → R D} (p : Cs → Bool) (g : Cs → D) {h : Hb} {xs : List Cs} (hn : xs.length ≤ lineN)
    (H : ∀ k ∈ xs, c (σ.set i (some (.v (.str k)))) h = .ok (p k) h ∧ (p k = true → e (σ.set i (some (.v (.str k)))) h = .ok (g k) h)) :
    lcGo [i] σ (fun _ => true) c e (xs.map .str) [] h = .ok ((xs.filter p).map g) h := by
  rw [lcGo_pure (fun d => match d with | .str k => p k | _ => false) (fun d => match d with | .str k => g k | _ => .non) h rfl (xs.map .str) [] (by
    intro x hx
    obtain ⟨k, hk, rfl⟩ := List.mem_map.1 hx
    have := H k hk
    exact ⟨_, rfl, this.1, this.2⟩) (by simpa using hn)]
  rw [List.nil_append, List.filter_map, List.map_map]
  rfl
theorem while_step {t : Env → Hb → R Bool} {b : Env → Hb → Out} {W : Env → Hb → Out} (hW : W = whl t b) (σ : Env) (h : Hb) : W σ h =
    match t σ h with
    | .ok true h => (b σ h).andThen W
    | .ok false h => .nx σ h
    | .ex c ns vs h => .ex c ns vs σ h
    | .st => .st := by
  subst hW
  exact whl_eq t b σ h
end Q
end FV

/-! The laws' own bag of numbers. -/
namespace FV
namespace Q
open PySem

def bagO (a b c : Int) : Ob := .lst [.int a, .int b, .int c]
def Bag (h : Hb) (j r : Nat) : Prop := ∃ a b c : Int, bx h j = some (.lst [.int a, .int b, .int c]) ∧ 0 ≤ b ∧ b < 2147483648 ∧ 0 ≤ c ∧ c + r ≤ 1000000
def Upd (j : Nat) (h h' : Hb) : Prop := h'.length = h.length ∧ ∀ i, i ≠ j → bx h' i = bx h i

theorem Upd.rfl' {j : Nat} {h : Hb} : Upd j h h := ⟨rfl, fun _ _ => rfl⟩
theorem Upd.trans {j : Nat} {h h' h'' : Hb} (a : Upd j h h') (b : Upd j h' h'') : Upd j h h'' := ⟨b.1.trans a.1, fun i e => (b.2 i e).trans (a.2 i e)⟩
theorem Bag.mono {h : Hb} {j r r' : Nat} (b : Bag h j r) (e : r' ≤ r) : Bag h j r' := by
  obtain ⟨a, b, c, h1, h2, h3, h4, h5⟩ := b
  exact ⟨a, b, c, h1, h2, h3, h4, by omega⟩

namespace Cm
def mixed : Fn := ⟨1, 1, (.cons (.seti (.var 0) (.int 2) (.op2 .add (.op2 .ix (.var 0) (.int 2)) (.int 1))) (.cons (.seti (.var 0) (.int 1) (.op2 .mod (.op1 .intI (.op2 .add (.op2 .add (.op2 .mul (.op2 .ix (.var 0) (.int 1)) (.int 48271)) (.op2 .mul (.op2 .ix (.var 0) (.int 2)) (.int 69621))) (.int 11))) (.int 2147483647))) (.cons (.ret (.op2 .mod (.op1 .intI (.op2 .add (.op2 .mul (.op2 .fdiv (.op2 .ix (.var 0) (.int 1)) (.int 5)) (.op2 .add (.op2 .fdiv (.op2 .ix (.var 0) (.int 1)) (.int 7)) (.int 3))) (.op2 .ix (.var 0) (.int 2)))) (.int 2147483399))) (.nil)))), false⟩
def draw (m : Nat) : Fn := ⟨2, 5, (.cons (.ite (.cmp .gt (.op2 .ix (.var 0) (.int 0)) (.int 0)) (.cons (.set 4 (.op2 .mod (.op1 .intI (.op2 .ix (.var 0) (.int 0))) (.var 1))) (.cons (.seti (.var 0) (.int 0) (.op2 .fdiv (.op2 .ix (.var 0) (.int 0)) (.var 1))) (.cons (.ret (.var 4)) (.nil)))) (.nil)) (.cons (.set 2 (.call m (.ex (.var 0) (.nil)))) (.cons (.set 3 (.call m (.ex (.var 0) (.nil)))) (.cons (.ret (.op2 .mod (.op2 .fdiv (.op1 .intI (.op2 .add (.op2 .mul (.var 2) (.int 2147483399)) (.var 3))) (.int 16)) (.var 1))) (.nil))))), false⟩
def count (d : Nat) : Fn := ⟨1, 2, (.cons (.set 1 (.op2 .ix (.tup (.cons (.int 6) (.cons (.int 6) (.cons (.int 6) (.cons (.int 12) (.nil)))))) (.call d (.ex (.var 0) (.ex (.int 4) (.nil)))))) (.cons (.ret (.op2 .add (.int 1) (.call d (.ex (.var 0) (.ex (.var 1) (.nil)))))) (.nil))), false⟩
def name_b1 (d : Nat) : Sms := (.cons (.set 6 (.op2 .add (.var 6) (.op2 .ix (.var 3) (.op2 .mod (.op1 .intI (.var 4)) (.var 2))))) (.cons (.set 4 (.op2 .fdiv (.var 4) (.var 2))) (.nil)))
def name_b2 (d : Nat) : Sms := (.cons (.set 6 (.op2 .add (.op2 .slU (.var 6) (.op2 .sub (.var 5) (.int 1))) (.op2 .ix (.var 3) (.op2 .mod (.op2 .add (.var 8) (.var 7)) (.int 26))))) (.cons (.ite (.cmp .notin (.var 6) (.var 1)) (.cons (.ret (.var 6)) (.nil)) (.nil)) (.nil)))
def name (d : Nat) : Fn := ⟨3, 9, (.cons (.set 3 (.str [97, 98, 99, 100, 101, 102, 103, 104, 105, 106, 107, 108, 109, 110, 111, 112, 113, 114, 115, 116, 117, 118, 119, 120, 121, 122])) (.cons (.set 4 (.call d (.ex (.var 0) (.ex (.op2 .mul (.int 8) (.op2 .pow (.int 26) (.int 8))) (.nil))))) (.cons (.set 5 (.op2 .add (.int 1) (.op2 .mod (.op1 .intI (.var 4)) (.int 8)))) (.cons (.set 4 (.op2 .fdiv (.var 4) (.int 8))) (.cons (.set 6 (.str [])) (.cons (.for [7] (.rng1 (.var 5)) (name_b1 d)) (.cons (.set 8 (.op2 .index (.var 3) (.op2 .slL (.var 6) (.op2 .sub (.var 5) (.int 1))))) (.cons (.for [7] (.rng1 (.int 26)) (name_b2 d)) (.cons (.ret (.var 6)) (.nil)))))))))), false⟩
def names_b1 (d m : Nat) : Sms := (.cons (.set 3 (.op2 .add (.var 3) (.lst false (.cons (.call m (.ex (.var 0) (.ex (.var 3) (.ex (.var 2) (.nil))))) (.nil))))) (.nil))
def names (d m : Nat) : Fn := ⟨2, 5, (.cons (.set 2 (.int 26)) (.cons (.ite (.cmp .eq (.call d (.ex (.var 0) (.ex (.int 2) (.nil)))) (.int 1)) (.cons (.set 2 (.int 2)) (.nil)) (.nil)) (.cons (.set 3 (.lst false (.nil))) (.cons (.for [4] (.rng1 (.var 1)) (names_b1 d m)) (.cons (.ret (.var 3)) (.nil)))))), false⟩
def ways_b1 (d : Nat) : Sms := (.cons (.set 5 (.call d (.ex (.var 0) (.ex (.op1 .len (.var 2)) (.nil))))) (.cons (.ite (.cmp .eq (.var 3) (.int 1)) (.cons (.set 5 (.int 0)) (.nil)) (.nil)) (.cons (.ite (.cmp .eq (.var 3) (.int 2)) (.cons (.set 5 (.op2 .sub (.op1 .len (.var 2)) (.int 1))) (.nil)) (.nil)) (.cons (.set 2 (.op2 .add (.op2 .add (.op2 .slU (.var 2) (.var 5)) (.lst false (.cons (.op2 .add (.op2 .ix (.var 2) (.var 5)) (.str [48])) (.cons (.op2 .add (.op2 .ix (.var 2) (.var 5)) (.str [49])) (.nil))))) (.op2 .slL (.var 2) (.op2 .add (.var 5) (.int 1))))) (.nil)))))
def ways (d : Nat) : Fn := ⟨2, 6, (.cons (.set 2 (.lst false (.cons (.str []) (.nil)))) (.cons (.set 3 (.call d (.ex (.var 0) (.ex (.int 4) (.nil))))) (.cons (.for [4] (.rng1 (.op2 .sub (.var 1) (.int 1))) (ways_b1 d)) (.cons (.ret (.var 2)) (.nil))))), false⟩
def tree_b1 (f : Nat) : Ex := (.cmp .eq (.op2 .slU (.var 3) (.int 1)) (.str [48]))
def tree_b2 (f : Nat) : Ex := (.tup (.cons (.op2 .slL (.var 3) (.int 1)) (.cons (.var 4) (.nil))))
def tree_b3 (f : Nat) : Ex := (.cmp .eq (.op2 .slU (.var 3) (.int 1)) (.str [49]))
def tree_b4 (f : Nat) : Ex := (.tup (.cons (.op2 .slL (.var 3) (.int 1)) (.cons (.var 4) (.nil))))
def tree (f : Nat) : Fn := ⟨1, 5, (.cons (.ite (.cmp .eq (.op1 .len (.var 0)) (.int 1)) (.cons (.ret (.op2 .ix (.op2 .ix (.var 0) (.int 0)) (.int 1))) (.nil)) (.nil)) (.cons (.set 1 (.lc false [3, 4] [3, 4] (.e (.var 0)) (tree_b1 f) (tree_b2 f))) (.cons (.set 2 (.lc false [3, 4] [3, 4] (.e (.var 0)) (tree_b3 f) (tree_b4 f))) (.cons (.ret (.tup (.cons (.call f (.ex (.var 1) (.nil))) (.cons (.call f (.ex (.var 2) (.nil))) (.nil))))) (.nil))))), false⟩
def made_b1 (f : Nat) : Ex := (.tup (.cons (.op2 .ix (.var 0) (.var 2)) (.cons (.op2 .ix (.var 1) (.var 2)) (.nil))))
def made (f : Nat) : Fn := ⟨2, 3, (.cons (.ret (.call f (.ex (.lc false [2] [2] (.rng1 (.op1 .len (.var 1))) (.bl true) (made_b1 f)) (.nil)))) (.nil)), false⟩
def forks_b1 : Sms := (.cons (.ite (.cmp .notin (.op2 .slU (.var 2) (.var 3)) (.var 1)) (.cons (.set 1 (.op2 .add (.var 1) (.lst false (.cons (.op2 .slU (.var 2) (.var 3)) (.nil))))) (.nil)) (.nil)) (.nil))
def forks_b2 : Sms := (.cons (.for [3] (.rng1 (.op1 .len (.var 2))) (forks_b1)) (.nil))
def forks : Fn := ⟨1, 4, (.cons (.set 1 (.lst false (.nil))) (.cons (.for [2] (.e (.var 0)) (forks_b2)) (.cons (.ret (.var 1)) (.nil)))), false⟩
end Cm

theorem log2_lt {n k : Nat} (h : n < 2 ^ k) (hk : 0 < k) : n.log2 < k := by
  by_cases e : n = 0
  · subst e; simpa using hk
  · exact (Nat.log2_lt e).2 h
theorem mul_ok {i j : Int} {h : Hb} (a b : Nat) (hi : i.natAbs < 2 ^ a) (hj : j.natAbs < 2 ^ b) (ha : 0 < a) (hb : 0 < b) (hab : a + b < 1000000) : arith (fun i j => i.natAbs.log2 + j.natAbs.log2 < 1000000) (fun i j => i * j) (.int i) (.int j) h = .ok (.int (i * j)) h := by
  have := log2_lt hi ha
  have := log2_lt hj hb
  exact arith_pos (by omega)
theorem mod_ok {i j : Int} {h : Hb} (e : 0 < j) : arith (fun i j => 0 < j) (fun i j => i % j) (.int i) (.int j) h = .ok (.int (i % j)) h := arith_pos e
theorem fdiv_ok {i j : Int} {h : Hb} (e : 0 < j) (e2 : j < 4611686018427387904) : arith (fun i j => 0 < j ∧ j.natAbs.log2 < 9000) (fun i j => i / j) (.int i) (.int j) h = .ok (.int (i / j)) h := arith_pos ⟨e, Nat.lt_trans (log2_lt (k := 62) (by omega) (by decide)) (by decide)⟩
theorem setiB_lst {m j : Nat} {h : Hb} {xs : List D} {v : D} (k : Nat) (hb : bx h j = some (.lst xs)) (hk : k < xs.length) (hv : below 0 v = true) : setiB m h (.box j) (.int (k : Int)) v = some (h.set j (some (.lst (xs.set k v)))) := by
  have w : wrOk m j v = true := by simp [wrOk, below_mono (Nat.zero_le j) v hv]
  have e1 : nix (k : Int) xs.length = (k : Int) := by unfold nix; rw [if_pos (by omega)]
  simp only [setiB, hb, e1]
  rw [if_pos ⟨by omega, by omega, w⟩]
  simp
theorem setiB_lit {m j : Nat} {h : Hb} {xs : List D} {v : D} (k : Nat) (hb : bx h j = some (.lst xs)) (hk : k < xs.length) (hv : below 0 v = true) : setiB m h (.box j) (.int (OfNat.ofNat k)) v = some (h.set j (some (.lst (xs.set k v)))) := setiB_lst k hb hk hv

theorem mixed_ok {T : Tb} {f : Nat} (hf : T.fn f = some Cm.mixed) {n mc j r : Nat} {h : Hb} (hn : 1 ≤ n) (B : Bag h j (r + 1)) :
    ∃ (v : Nat) (h' : Hb), callN T n false mc f [.v (.box j)] h = .ok (.int v) h' ∧ v < 2147483399 ∧ Bag h' j r ∧ Upd j h h' := by
  obtain ⟨n, rfl⟩ : ∃ k, n = k + 1 := ⟨n - 1, by omega⟩
  obtain ⟨a, b, c, hb, h2, h3, h4, h5⟩ := B
  have hj : j < h.length := bx_lt hb
  have m1 := mul_ok (i := b) (j := 48271) (h := (h.set j (some (Ob.lst [.int a, .int b, .int (c + 1)])))) 31 16 (by omega) (by decide) (by decide) (by decide) (by decide)
  have m2 := mul_ok (i := c + 1) (j := 69621) (h := (h.set j (some (Ob.lst [.int a, .int b, .int (c + 1)])))) 31 17 (by omega) (by decide) (by decide) (by decide) (by decide)
  have ⟨b', hb', hb2⟩ : ∃ b' : Int, b' = (b * 48271 + (c + 1) * 69621 + 11) % 2147483647 ∧ 0 ≤ b' ∧ b' < 2147483647 := ⟨_, rfl, by omega, by omega⟩
  have m3 := mul_ok (i := b' / 5) (j := b' / 7 + 3) (h := (h.set j (some (Ob.lst [.int a, .int b', .int (c + 1)])))) 31 31 (by omega) (by omega) (by decide) (by decide) (by decide)
  have ⟨v, hv, hv2⟩ : ∃ v : Int, v = (b' / 5 * (b' / 7 + 3) + (c + 1)) % 2147483399 ∧ 0 ≤ v ∧ v < 2147483399 := ⟨_, rfl, by omega, by omega⟩
  refine ⟨v.toNat, h.set j (some (Ob.lst [.int a, .int b', .int (c + 1)])), ?_, by omega, ⟨a, b', c + 1, bx_set hj, hb2.1, by omega, by omega, by omega⟩, by simp, fun i hi => bx_set_ne (Ne.symm hi)⟩
  rw [callF hf rfl rfl rfl]
  simp -implicitDefEqProofs -dsimp only [Cm.mixed, bnd_ok, bnd_ex, bnd_st, frm_ok, frm_ex, frm_st, thn_nx, thn_rt, thn_ex, thn_st, trO_ex, trO_nx, trO_rt, e_var, e_non, e_bl, e_int, e_str, e_glo, e_op1, e_op2, e_op3, e_cmp, e_cmp3, e_and, e_or, e_not, e_ite, e_tup, e_lst, e_dct0, e_set0, e_call, e_new, e_fld, e_lc, e_dc, e_isE, e_isV, e_atE, t_cmp, t_cmp3, t_and, t_or, t_not, t_ite, t_var, t_bl, t_op1, t_op2, t_call, t_fld, t_isE, t_isV, x_nil, x_cons, a_nil, a_ex, a_ec, r_e, r_rng1, r_rng2, s_expr, s_set, s_unp, s_seti, s_setf, s_ret, s_raise, s_ite, s_whl, s_for, s_tr, s_pass, ss_nil, ss_cons, getV, optV, List.getElem?_cons_zero, List.getElem?_cons_succ, List.set_cons_zero, List.set_cons_succ, startE, List.map_cons, List.map_nil, List.length_cons, List.length_nil, List.cons_append, List.nil_append, recv, sem1, sem2, optB, truthR, truth, seqL, isI, calm1, calm2, cfN_hot, cfN_m, cfN_call, cfN_glo, cfN_sub, cfN_sve, cfN_exn, Bool.false_and, Bool.true_and, Bool.and_true, Bool.and_false, Bool.or_true, Bool.true_or, Bool.or_false, Bool.false_or, Bool.not_true, Bool.not_false, if_true, if_false, Bool.false_eq_true, reduceIte, Option.map_some, Option.map_none, reduceCtorEq, ixD, atI_0, atI_1, atI_2, atI_3, atI_4, atI_5, atI_6, atI_7, atI_8, atI_9, atI_10, atI_11, atI_12, atI_nat', decide_true, decide_false, Bool.and_self, Option.isSome_some, Option.isSome_none, eqD_int, eqD_str, List.append_nil, stays_lst', stays_non', stays_tup', stays_str', stays_dic', wipeE, List.foldr_cons, List.foldr_nil, setV, mkL, mkD, items, lineN, Nat.reduceLeDiff,  List.reduceReplicate, Nat.reduceAdd, Nat.reduceSub, hb]
  rw [show (D.int 2) = D.int ((2 : Nat) : Int) from rfl, setiB_lst 2 hb (by simp) rfl]
  simp -implicitDefEqProofs -dsimp only [bnd_ok, bnd_ex, bnd_st, frm_ok, frm_ex, frm_st, thn_nx, thn_rt, thn_ex, thn_st, trO_ex, trO_nx, trO_rt, e_var, e_non, e_bl, e_int, e_str, e_glo, e_op1, e_op2, e_op3, e_cmp, e_cmp3, e_and, e_or, e_not, e_ite, e_tup, e_lst, e_dct0, e_set0, e_call, e_new, e_fld, e_lc, e_dc, e_isE, e_isV, e_atE, t_cmp, t_cmp3, t_and, t_or, t_not, t_ite, t_var, t_bl, t_op1, t_op2, t_call, t_fld, t_isE, t_isV, x_nil, x_cons, a_nil, a_ex, a_ec, r_e, r_rng1, r_rng2, s_expr, s_set, s_unp, s_seti, s_setf, s_ret, s_raise, s_ite, s_whl, s_for, s_tr, s_pass, ss_nil, ss_cons, getV, optV, List.getElem?_cons_zero, List.getElem?_cons_succ, List.set_cons_zero, List.set_cons_succ, startE, List.map_cons, List.map_nil, List.length_cons, List.length_nil, List.cons_append, List.nil_append, recv, sem1, sem2, optB, truthR, truth, seqL, isI, calm1, calm2, cfN_hot, cfN_m, cfN_call, cfN_glo, cfN_sub, cfN_sve, cfN_exn, Bool.false_and, Bool.true_and, Bool.and_true, Bool.and_false, Bool.or_true, Bool.true_or, Bool.or_false, Bool.false_or, Bool.not_true, Bool.not_false, if_true, if_false, Bool.false_eq_true, reduceIte, Option.map_some, Option.map_none, reduceCtorEq, ixD, atI_0, atI_1, atI_2, atI_3, atI_4, atI_5, atI_6, atI_7, atI_8, atI_9, atI_10, atI_11, atI_12, atI_nat', decide_true, decide_false, Bool.and_self, Option.isSome_some, Option.isSome_none, eqD_int, eqD_str, List.append_nil, stays_lst', stays_non', stays_tup', stays_str', stays_dic', wipeE, List.foldr_cons, List.foldr_nil, setV, mkL, mkD, items, lineN, Nat.reduceLeDiff,  List.reduceReplicate, Nat.reduceAdd, Nat.reduceSub, bx_set hj, List.set_cons_zero, m1, m2, mod_ok (i := b * 48271 + (c + 1) * 69621 + 11) (show (0 : Int) < 2147483647 by decide), ← hb']
  rw [show (D.int 1) = D.int ((1 : Nat) : Int) from rfl, setiB_lst 1 (bx_set hj) (by simp) rfl]
  simp -implicitDefEqProofs -dsimp only [bnd_ok, bnd_ex, bnd_st, frm_ok, frm_ex, frm_st, thn_nx, thn_rt, thn_ex, thn_st, trO_ex, trO_nx, trO_rt, e_var, e_non, e_bl, e_int, e_str, e_glo, e_op1, e_op2, e_op3, e_cmp, e_cmp3, e_and, e_or, e_not, e_ite, e_tup, e_lst, e_dct0, e_set0, e_call, e_new, e_fld, e_lc, e_dc, e_isE, e_isV, e_atE, t_cmp, t_cmp3, t_and, t_or, t_not, t_ite, t_var, t_bl, t_op1, t_op2, t_call, t_fld, t_isE, t_isV, x_nil, x_cons, a_nil, a_ex, a_ec, r_e, r_rng1, r_rng2, s_expr, s_set, s_unp, s_seti, s_setf, s_ret, s_raise, s_ite, s_whl, s_for, s_tr, s_pass, ss_nil, ss_cons, getV, optV, List.getElem?_cons_zero, List.getElem?_cons_succ, List.set_cons_zero, List.set_cons_succ, startE, List.map_cons, List.map_nil, List.length_cons, List.length_nil, List.cons_append, List.nil_append, recv, sem1, sem2, optB, truthR, truth, seqL, isI, calm1, calm2, cfN_hot, cfN_m, cfN_call, cfN_glo, cfN_sub, cfN_sve, cfN_exn, Bool.false_and, Bool.true_and, Bool.and_true, Bool.and_false, Bool.or_true, Bool.true_or, Bool.or_false, Bool.false_or, Bool.not_true, Bool.not_false, if_true, if_false, Bool.false_eq_true, reduceIte, Option.map_some, Option.map_none, reduceCtorEq, ixD, atI_0, atI_1, atI_2, atI_3, atI_4, atI_5, atI_6, atI_7, atI_8, atI_9, atI_10, atI_11, atI_12, atI_nat', decide_true, decide_false, Bool.and_self, Option.isSome_some, Option.isSome_none, eqD_int, eqD_str, List.append_nil, stays_lst', stays_non', stays_tup', stays_str', stays_dic', wipeE, List.foldr_cons, List.foldr_nil, setV, mkL, mkD, items, lineN, Nat.reduceLeDiff,  List.reduceReplicate, Nat.reduceAdd, Nat.reduceSub, List.set_set, bx_set hj, fdiv_ok (i := b') (show (0 : Int) < 5 by decide) (show (5 : Int) < 4611686018427387904 by decide), fdiv_ok (i := b') (show (0 : Int) < 7 by decide) (show (7 : Int) < 4611686018427387904 by decide), m3, mod_ok (i := b' / 5 * (b' / 7 + 3) + (c + 1)) (show (0 : Int) < 2147483399 by decide), ← hv]
  rw [exit_rt rfl (List.take_of_length_le (by simp))]
  simp [Int.toNat_of_nonneg hv2.1]

theorem draw_ok {T : Tb} {f m : Nat} (hf : T.fn f = some (Cm.draw m)) (hm : T.fn m = some Cm.mixed) {n mc j r s : Nat} {h : Hb} (hn : 2 ≤ n) (B : Bag h j (r + 2)) (hs : 0 < s) (hs2 : s < 4611686018427387904) :
    ∃ (v : Nat) (h' : Hb), callN T n false mc f [.v (.box j), .v (.int s)] h = .ok (.int v) h' ∧ v < s ∧ Bag h' j r ∧ Upd j h h' := by
  obtain ⟨n, rfl⟩ : ∃ k, n = k + 1 := ⟨n - 1, by omega⟩
  have B0 := B
  obtain ⟨a, b, c, hb, h2, h3, h4, h5⟩ := B
  have hj : j < h.length := bx_lt hb
  have hs0 : (0 : Int) < (s : Int) := by omega
  have hs1 : (s : Int) < 4611686018427387904 := by omega
  by_cases ha : 0 < a
  · refine ⟨(a % s).toNat, h.set j (some (Ob.lst [.int (a / s), .int b, .int c])), ?_, ?_, ⟨_, b, c, bx_set hj, h2, h3, h4, by omega⟩, by simp, fun i hi => bx_set_ne (Ne.symm hi)⟩
    · rw [callF hf rfl rfl rfl]
      simp -implicitDefEqProofs -dsimp only [Cm.draw, bnd_ok, bnd_ex, bnd_st, frm_ok, frm_ex, frm_st, thn_nx, thn_rt, thn_ex, thn_st, trO_ex, trO_nx, trO_rt, e_var, e_non, e_bl, e_int, e_str, e_glo, e_op1, e_op2, e_op3, e_cmp, e_cmp3, e_and, e_or, e_not, e_ite, e_tup, e_lst, e_dct0, e_set0, e_call, e_new, e_fld, e_lc, e_dc, e_isE, e_isV, e_atE, t_cmp, t_cmp3, t_and, t_or, t_not, t_ite, t_var, t_bl, t_op1, t_op2, t_call, t_fld, t_isE, t_isV, x_nil, x_cons, a_nil, a_ex, a_ec, r_e, r_rng1, r_rng2, s_expr, s_set, s_unp, s_seti, s_setf, s_ret, s_raise, s_ite, s_whl, s_for, s_tr, s_pass, ss_nil, ss_cons, getV, optV, List.getElem?_cons_zero, List.getElem?_cons_succ, List.set_cons_zero, List.set_cons_succ, startE, List.map_cons, List.map_nil, List.length_cons, List.length_nil, List.cons_append, List.nil_append, recv, sem1, sem2, optB, truthR, truth, seqL, isI, calm1, calm2, cfN_hot, cfN_m, cfN_call, cfN_glo, cfN_sub, cfN_sve, cfN_exn, Bool.false_and, Bool.true_and, Bool.and_true, Bool.and_false, Bool.or_true, Bool.true_or, Bool.or_false, Bool.false_or, Bool.not_true, Bool.not_false, if_true, if_false, Bool.false_eq_true, reduceIte, Option.map_some, Option.map_none, reduceCtorEq, ixD, atI_0, atI_1, atI_2, atI_3, atI_4, atI_5, atI_6, atI_7, atI_8, atI_9, atI_10, atI_11, atI_12, atI_nat', decide_true, decide_false, Bool.and_self, Option.isSome_some, Option.isSome_none, eqD_int, eqD_str, List.append_nil, stays_lst', stays_non', stays_tup', stays_str', stays_dic', wipeE, List.foldr_cons, List.foldr_nil, setV, mkL, mkD, items, lineN, Nat.reduceLeDiff,  List.reduceReplicate, Nat.reduceAdd, Nat.reduceSub, hb, cmpI, ha, mod_ok hs0, fdiv_ok hs0 hs1]
      rw [show (D.int 0) = D.int ((0 : Nat) : Int) from rfl, setiB_lst 0 hb (by simp) rfl]
      simp -implicitDefEqProofs -dsimp only [bnd_ok, bnd_ex, bnd_st, frm_ok, frm_ex, frm_st, thn_nx, thn_rt, thn_ex, thn_st, trO_ex, trO_nx, trO_rt, e_var, e_non, e_bl, e_int, e_str, e_glo, e_op1, e_op2, e_op3, e_cmp, e_cmp3, e_and, e_or, e_not, e_ite, e_tup, e_lst, e_dct0, e_set0, e_call, e_new, e_fld, e_lc, e_dc, e_isE, e_isV, e_atE, t_cmp, t_cmp3, t_and, t_or, t_not, t_ite, t_var, t_bl, t_op1, t_op2, t_call, t_fld, t_isE, t_isV, x_nil, x_cons, a_nil, a_ex, a_ec, r_e, r_rng1, r_rng2, s_expr, s_set, s_unp, s_seti, s_setf, s_ret, s_raise, s_ite, s_whl, s_for, s_tr, s_pass, ss_nil, ss_cons, getV, optV, List.getElem?_cons_zero, List.getElem?_cons_succ, List.set_cons_zero, List.set_cons_succ, startE, List.map_cons, List.map_nil, List.length_cons, List.length_nil, List.cons_append, List.nil_append, recv, sem1, sem2, optB, truthR, truth, seqL, isI, calm1, calm2, cfN_hot, cfN_m, cfN_call, cfN_glo, cfN_sub, cfN_sve, cfN_exn, Bool.false_and, Bool.true_and, Bool.and_true, Bool.and_false, Bool.or_true, Bool.true_or, Bool.or_false, Bool.false_or, Bool.not_true, Bool.not_false, if_true, if_false, Bool.false_eq_true, reduceIte, Option.map_some, Option.map_none, reduceCtorEq, ixD, atI_0, atI_1, atI_2, atI_3, atI_4, atI_5, atI_6, atI_7, atI_8, atI_9, atI_10, atI_11, atI_12, atI_nat', decide_true, decide_false, Bool.and_self, Option.isSome_some, Option.isSome_none, eqD_int, eqD_str, List.append_nil, stays_lst', stays_non', stays_tup', stays_str', stays_dic', wipeE, List.foldr_cons, List.foldr_nil, setV, mkL, mkD, items, lineN, Nat.reduceLeDiff,  List.reduceReplicate, Nat.reduceAdd, Nat.reduceSub]
      rw [exit_rt rfl (List.take_of_length_le (by simp))]
      simp [Int.toNat_of_nonneg (Int.emod_nonneg a (Int.ne_of_gt hs0))]
    · have := Int.emod_lt_of_pos a hs0
      have := Int.emod_nonneg a (Int.ne_of_gt hs0)
      exact (Int.toNat_lt this).2 (by assumption)
  · obtain ⟨v1, h1, e1, l1, B1, u1⟩ := mixed_ok hm (mc := h.length) (show 1 ≤ n by omega) (show Bag h j ((r + 1) + 1) from B0)
    obtain ⟨v2, h2, e2, l2, B2, u2⟩ := mixed_ok hm (mc := h.length) (show 1 ≤ n by omega) B1
    have m1 := mul_ok (i := (v1 : Int)) (j := 2147483399) (h := h2) 31 31 (by omega) (show (2147483399 : Int).natAbs < 2 ^ 31 by decide) (by decide) (by decide) (by decide)
    have x0 := Int.emod_lt_of_pos (((v1 : Int) * 2147483399 + v2) / 16) hs0
    have x1 := Int.emod_nonneg (((v1 : Int) * 2147483399 + v2) / 16) (Int.ne_of_gt hs0)
    refine ⟨((((v1 : Int) * 2147483399 + v2) / 16) % s).toNat, h2, ?_, (Int.toNat_lt x1).2 x0, B2, u1.trans u2⟩
    rw [callF hf rfl rfl rfl]
    simp -implicitDefEqProofs -dsimp only [Cm.draw, bnd_ok, bnd_ex, bnd_st, frm_ok, frm_ex, frm_st, thn_nx, thn_rt, thn_ex, thn_st, trO_ex, trO_nx, trO_rt, e_var, e_non, e_bl, e_int, e_str, e_glo, e_op1, e_op2, e_op3, e_cmp, e_cmp3, e_and, e_or, e_not, e_ite, e_tup, e_lst, e_dct0, e_set0, e_call, e_new, e_fld, e_lc, e_dc, e_isE, e_isV, e_atE, t_cmp, t_cmp3, t_and, t_or, t_not, t_ite, t_var, t_bl, t_op1, t_op2, t_call, t_fld, t_isE, t_isV, x_nil, x_cons, a_nil, a_ex, a_ec, r_e, r_rng1, r_rng2, s_expr, s_set, s_unp, s_seti, s_setf, s_ret, s_raise, s_ite, s_whl, s_for, s_tr, s_pass, ss_nil, ss_cons, getV, optV, List.getElem?_cons_zero, List.getElem?_cons_succ, List.set_cons_zero, List.set_cons_succ, startE, List.map_cons, List.map_nil, List.length_cons, List.length_nil, List.cons_append, List.nil_append, recv, sem1, sem2, optB, truthR, truth, seqL, isI, calm1, calm2, cfN_hot, cfN_m, cfN_call, cfN_glo, cfN_sub, cfN_sve, cfN_exn, Bool.false_and, Bool.true_and, Bool.and_true, Bool.and_false, Bool.or_true, Bool.true_or, Bool.or_false, Bool.false_or, Bool.not_true, Bool.not_false, if_true, if_false, Bool.false_eq_true, reduceIte, Option.map_some, Option.map_none, reduceCtorEq, ixD, atI_0, atI_1, atI_2, atI_3, atI_4, atI_5, atI_6, atI_7, atI_8, atI_9, atI_10, atI_11, atI_12, atI_nat', decide_true, decide_false, Bool.and_self, Option.isSome_some, Option.isSome_none, eqD_int, eqD_str, List.append_nil, stays_lst', stays_non', stays_tup', stays_str', stays_dic', wipeE, List.foldr_cons, List.foldr_nil, setV, mkL, mkD, items, lineN, Nat.reduceLeDiff,  List.reduceReplicate, Nat.reduceAdd, Nat.reduceSub, hb, cmpI, ha, e1, e2, m1, mod_ok hs0, fdiv_ok (show (0 : Int) < 16 by decide) (show (16 : Int) < 4611686018427387904 by decide)]
    rw [exit_rt rfl (List.take_of_length_le (by simp [(u1.trans u2).1]))]
    simp only [Int.toNat_of_nonneg x1]

end Q
end FV

/-! Drawn numbers, names, ways. -/
namespace FV
namespace Q
open PySem

def IsDraw (T : Tb) (d : Nat) : Prop := ∃ m, T.fn d = some (Cm.draw m) ∧ T.fn m = some Cm.mixed
theorem draw {T : Tb} {d : Nat} (Dw : IsDraw T d) {n mc j r : Nat} {h : Hb} (s : Nat) (hn : 2 ≤ n) (B : Bag h j (r + 2)) (hs : 0 < s) (hs2 : s < 4611686018427387904) :
    ∃ (v : Nat) (h' : Hb), callN T n false mc d [.v (.box j), .v (.int s)] h = .ok (.int v) h' ∧ v < s ∧ Bag h' j r ∧ Upd j h h' := by
  obtain ⟨m, a, b⟩ := Dw
  exact draw_ok a b hn B hs hs2

theorem count_ok {T : Tb} {f d : Nat} (hf : T.fn f = some (Cm.count d)) (Dw : IsDraw T d) {n mc j r : Nat} {h : Hb} (hn : 3 ≤ n) (B : Bag h j (r + 4)) :
    ∃ (v : Nat) (h' : Hb), callN T n false mc f [.v (.box j)] h = .ok (.int v) h' ∧ 1 ≤ v ∧ v ≤ 12 ∧ Bag h' j r ∧ Upd j h h' := by
  obtain ⟨n, rfl⟩ : ∃ k, n = k + 1 := ⟨n - 1, by omega⟩
  obtain ⟨v1, h1, e1, l1, B1, u1⟩ := draw Dw (n := n) (mc := h.length) 4 (by omega) (r := r + 2) B (by decide) (by decide)
  obtain ⟨w, hw, w0, w1⟩ : ∃ w : Nat, [D.int 6, D.int 6, D.int 6, D.int 12][v1]? = some (.int w) ∧ 0 < w ∧ w ≤ 12 := by
    match v1, l1 with
    | 0, _ => exact ⟨6, rfl, by decide, by decide⟩
    | 1, _ => exact ⟨6, rfl, by decide, by decide⟩
    | 2, _ => exact ⟨6, rfl, by decide, by decide⟩
    | 3, _ => exact ⟨12, rfl, by decide, by decide⟩
  obtain ⟨v2, h2, e2, l2, B2, u2⟩ := draw Dw (n := n) (mc := h.length) w (by omega) B1 w0 (by omega)
  refine ⟨1 + v2, h2, ?_, by omega, by omega, B2, u1.trans u2⟩
  rw [callF hf rfl rfl rfl]
  rw [show ((4 : Nat) : Int) = 4 from rfl] at e1
  simp -implicitDefEqProofs -dsimp only [Cm.count, bnd_ok, bnd_ex, bnd_st, frm_ok, frm_ex, frm_st, thn_nx, thn_rt, thn_ex, thn_st, trO_ex, trO_nx, trO_rt, e_var, e_non, e_bl, e_int, e_str, e_glo, e_op1, e_op2, e_op3, e_cmp, e_cmp3, e_and, e_or, e_not, e_ite, e_tup, e_lst, e_dct0, e_set0, e_call, e_new, e_fld, e_lc, e_dc, e_isE, e_isV, e_atE, t_cmp, t_cmp3, t_and, t_or, t_not, t_ite, t_var, t_bl, t_op1, t_op2, t_call, t_fld, t_isE, t_isV, x_nil, x_cons, a_nil, a_ex, a_ec, r_e, r_rng1, r_rng2, s_expr, s_set, s_unp, s_seti, s_setf, s_ret, s_raise, s_ite, s_whl, s_for, s_tr, s_pass, ss_nil, ss_cons, getV, optV, List.getElem?_cons_zero, List.getElem?_cons_succ, List.set_cons_zero, List.set_cons_succ, startE, List.map_cons, List.map_nil, List.length_cons, List.length_nil, List.cons_append, List.nil_append, recv, sem1, sem2, optB, truthR, truth, seqL, isI, calm1, calm2, cfN_hot, cfN_m, cfN_call, cfN_glo, cfN_sub, cfN_sve, cfN_exn, Bool.false_and, Bool.true_and, Bool.and_true, Bool.and_false, Bool.or_true, Bool.true_or, Bool.or_false, Bool.false_or, Bool.not_true, Bool.not_false, if_true, if_false, Bool.false_eq_true, reduceIte, Option.map_some, Option.map_none, reduceCtorEq, ixD, atI_0, atI_1, atI_2, atI_3, atI_4, atI_5, atI_6, atI_7, atI_8, atI_9, atI_10, atI_11, atI_12, atI_nat', decide_true, decide_false, Bool.and_self, Option.isSome_some, Option.isSome_none, eqD_int, eqD_str, List.append_nil, stays_lst', stays_non', stays_tup', stays_str', stays_dic', wipeE, List.foldr_cons, List.foldr_nil, setV, mkL, mkD, items, lineN, Nat.reduceLeDiff,  List.reduceReplicate, Nat.reduceAdd, Nat.reduceSub, e1, hw, e2]
  rw [exit_rt rfl (List.take_of_length_le (by simp [(u1.trans u2).1]))]
  simp

def isNameC (x : Cs) : Prop := 1 ≤ x.length ∧ x.length ≤ 8 ∧ ∀ c ∈ x, 97 ≤ c ∧ c ≤ 122
def abc : Cs := [97, 98, 99, 100, 101, 102, 103, 104, 105, 106, 107, 108, 109, 110, 111, 112, 113, 114, 115, 116, 117, 118, 119, 120, 121, 122]
theorem abc_get {k : Nat} (h : k < 26) : abc[k]? = some (97 + k) := by
  have : ∀ k : Fin 26, abc[k.1]? = some (97 + k.1) := by decide
  exact this ⟨k, h⟩
theorem abc_idx {c : Nat} (h : 97 ≤ c ∧ c ≤ 122) : abc.idxOf c = c - 97 ∧ c ∈ abc := by
  have : ∀ k : Fin 26, abc.idxOf (97 + k.1) = k.1 ∧ (97 + k.1) ∈ abc := by decide
  have := this ⟨c - 97, by omega⟩
  simp only [show 97 + (c - 97) = c by omega] at this
  exact this
theorem abc_nodup : abc.Nodup := by decide

theorem len_le_of_sub {α : Type} [DecidableEq α] : ∀ {a b : List α}, a.Nodup → (∀ x ∈ a, x ∈ b) → a.length ≤ b.length
  | [], _, _, _ => by simp
  | x :: a, b, h, s => by
    have h' := List.nodup_cons.1 h
    have hx : x ∈ b := s x (by simp)
    have := len_le_of_sub (a := a) (b := b.erase x) h'.2 (fun y hy => by
      have : y ≠ x := fun e => h'.1 (e ▸ hy)
      exact (List.mem_erase_of_ne this).2 (s y (by simp [hy])))
    have l := List.length_erase_of_mem hx
    have : 0 < b.length := List.length_pos_of_mem hx
    simp
    omega

theorem name_ok {T : Tb} {f d : Nat} (hf : T.fn f = some (Cm.name d)) (Dw : IsDraw T d) {n mc j r many : Nat} {h : Hb} {taken : List Cs} (hn : 3 ≤ n) (B : Bag h j (r + 2)) (hm : many = 2 ∨ many = 26) :
    ∃ (x : Cs) (h' : Hb), callN T n false mc f [.v (.box j), .v (.lst (taken.map .str)), .v (.int many)] h = .ok (.str x) h' ∧ isNameC x ∧ (taken.length < 26 → x ∉ taken) ∧ Bag h' j r ∧ Upd j h h' := by
  obtain ⟨n, rfl⟩ : ∃ k, n = k + 1 := ⟨n - 1, by omega⟩
  obtain ⟨v, h1, e1, l1, B1, u1⟩ := draw Dw (n := n) (mc := h.length) 1670616516608 (by omega) B (by decide) (by decide)
  clear l1
  rw [callF hf rfl rfl rfl]
  have p1 : arith (fun i j => 0 ≤ j ∧ j ≤ 1000000 ∧ i.natAbs < 2 ^ 64) (fun i j => i ^ j.toNat) (.int 26) (.int 8) h = .ok (.int 208827064576) h := by
    rw [arith_pos (by decide)]; rfl
  have p2 : arith (fun i j => i.natAbs.log2 + j.natAbs.log2 < 1000000) (fun i j => i * j) (.int 8) (.int 208827064576) h = .ok (.int 1670616516608) h := mul_ok 31 62 (by decide) (by decide) (by decide) (by decide) (by decide)
  rw [show ((1670616516608 : Nat) : Int) = 1670616516608 from rfl] at e1
  have c1 : (1 : Int) + (v : Int) % 8 = ((1 + v % 8 : Nat) : Int) := by omega
  have c2 : (v : Int) / 8 = ((v / 8 : Nat) : Int) := by omega
  generalize hsz : 1 + v % 8 = size at c1
  generalize v / 8 = number at c2
  have sz1 : inR (size : Int) = true := by unfold inR; exact decide_eq_true (by omega)
  simp -implicitDefEqProofs -dsimp only [Cm.name, bnd_ok, bnd_ex, bnd_st, frm_ok, frm_ex, frm_st, thn_nx, thn_rt, thn_ex, thn_st, trO_ex, trO_nx, trO_rt, e_var, e_non, e_bl, e_int, e_str, e_glo, e_op1, e_op2, e_op3, e_cmp, e_cmp3, e_and, e_or, e_not, e_ite, e_tup, e_lst, e_dct0, e_set0, e_call, e_new, e_fld, e_lc, e_dc, e_isE, e_isV, e_atE, t_cmp, t_cmp3, t_and, t_or, t_not, t_ite, t_var, t_bl, t_op1, t_op2, t_call, t_fld, t_isE, t_isV, x_nil, x_cons, a_nil, a_ex, a_ec, r_e, r_rng1, r_rng2, s_expr, s_set, s_unp, s_seti, s_setf, s_ret, s_raise, s_ite, s_whl, s_for, s_tr, s_pass, ss_nil, ss_cons, getV, optV, List.getElem?_cons_zero, List.getElem?_cons_succ, List.set_cons_zero, List.set_cons_succ, startE, List.map_cons, List.map_nil, List.length_cons, List.length_nil, List.cons_append, List.nil_append, recv, sem1, sem2, optB, truthR, truth, seqL, isI, calm1, calm2, cfN_hot, cfN_m, cfN_call, cfN_glo, cfN_sub, cfN_sve, cfN_exn, Bool.false_and, Bool.true_and, Bool.and_true, Bool.and_false, Bool.or_true, Bool.true_or, Bool.or_false, Bool.false_or, Bool.not_true, Bool.not_false, if_true, if_false, Bool.false_eq_true, reduceIte, Option.map_some, Option.map_none, reduceCtorEq, ixD, atI_0, atI_1, atI_2, atI_3, atI_4, atI_5, atI_6, atI_7, atI_8, atI_9, atI_10, atI_11, atI_12, atI_nat', decide_true, decide_false, Bool.and_self, Option.isSome_some, Option.isSome_none, eqD_int, eqD_str, List.append_nil, stays_lst', stays_non', stays_tup', stays_str', stays_dic', wipeE, List.foldr_cons, List.foldr_nil, setV, mkL, mkD, items, lineN, Nat.reduceLeDiff,  List.reduceReplicate, Nat.reduceAdd, Nat.reduceSub, p1, p2, e1, mod_ok (show (0 : Int) < 8 by decide), fdiv_ok (show (0 : Int) < 8 by decide) (show (8 : Int) < 4611686018427387904 by decide), c1, c2, sz1, Int.toNat_natCast]
  have hm0 : 0 < many := by omega
  have hm1 : (0 : Int) < (many : Int) := by omega
  have hm2 : (many : Int) < 4611686018427387904 := by omega
  obtain ⟨σ2, h2, e2, nm, kv, num', ea, eb, ec, ed⟩ := forGo_nx (tg := [7]) (st := fun _ => true) (b := evSs (cfN T n false h.length) (Cm.name_b1 d))
    (fun xs σ h => ∃ (nm : Cs) (kv : Option Sl) (num : Nat), σ = [some (.v (.box j)), some (.v (.lst (taken.map .str))), some (.v (.int many)), some (.v (.str abc)), some (.v (.int num)), some (.v (.int size)), some (.v (.str nm)), kv, none] ∧ h = h1 ∧ nm.length + xs.length = size ∧ (∀ c ∈ nm, 97 ≤ c ∧ c ≤ 122))
    (fun _ _ _ _ => rfl) (by
      rintro x r σ h' ⟨nm, kv, num, rfl, rfl, l, hc⟩
      refine ⟨_, rfl, ?_⟩
      have i1 : L2.atI abc ((num : Int) % (many : Int)) = some (97 + num % many) := by
        rw [← Int.natCast_emod, atI_nat', abc_get (by have := Nat.mod_lt num hm0; omega)]
      simp only [List.length_cons] at l
      have l2 : nm.length + 1 ≤ 16777216 := by omega
      have l3 : abc.length ≤ 16777216 := by decide
      simp -implicitDefEqProofs -dsimp only [Cm.name_b1, bnd_ok, bnd_ex, bnd_st, frm_ok, frm_ex, frm_st, thn_nx, thn_rt, thn_ex, thn_st, trO_ex, trO_nx, trO_rt, e_var, e_non, e_bl, e_int, e_str, e_glo, e_op1, e_op2, e_op3, e_cmp, e_cmp3, e_and, e_or, e_not, e_ite, e_tup, e_lst, e_dct0, e_set0, e_call, e_new, e_fld, e_lc, e_dc, e_isE, e_isV, e_atE, t_cmp, t_cmp3, t_and, t_or, t_not, t_ite, t_var, t_bl, t_op1, t_op2, t_call, t_fld, t_isE, t_isV, x_nil, x_cons, a_nil, a_ex, a_ec, r_e, r_rng1, r_rng2, s_expr, s_set, s_unp, s_seti, s_setf, s_ret, s_raise, s_ite, s_whl, s_for, s_tr, s_pass, ss_nil, ss_cons, getV, optV, List.getElem?_cons_zero, List.getElem?_cons_succ, List.set_cons_zero, List.set_cons_succ, startE, List.map_cons, List.map_nil, List.length_cons, List.length_nil, List.cons_append, List.nil_append, recv, sem1, sem2, optB, truthR, truth, seqL, isI, calm1, calm2, cfN_hot, cfN_m, cfN_call, cfN_glo, cfN_sub, cfN_sve, cfN_exn, Bool.false_and, Bool.true_and, Bool.and_true, Bool.and_false, Bool.or_true, Bool.true_or, Bool.or_false, Bool.false_or, Bool.not_true, Bool.not_false, if_true, if_false, Bool.false_eq_true, reduceIte, Option.map_some, Option.map_none, reduceCtorEq, ixD, atI_0, atI_1, atI_2, atI_3, atI_4, atI_5, atI_6, atI_7, atI_8, atI_9, atI_10, atI_11, atI_12, atI_nat', decide_true, decide_false, Bool.and_self, Option.isSome_some, Option.isSome_none, eqD_int, eqD_str, List.append_nil, stays_lst', stays_non', stays_tup', stays_str', stays_dic', wipeE, List.foldr_cons, List.foldr_nil, setV, mkL, mkD, items, lineN, Nat.reduceLeDiff,  List.reduceReplicate, Nat.reduceAdd, Nat.reduceSub, mod_ok hm1, fdiv_ok hm1 hm2, i1, l2, l3]
      refine ⟨_, _, rfl, nm ++ [97 + num % many], some (.v x), num / many, rfl, rfl, by simp; omega, ?_⟩
      · intro c hc'
        have := Nat.mod_lt num hm0
        simp only [List.mem_append, List.mem_singleton] at hc'
        rcases hc' with hc' | rfl
        · exact hc c hc'
        · omega) (rngL 0 size) _ _ ⟨[], none, number, rfl, rfl, by simp [rngL_length], by simp⟩
  rw [show ([97, 98, 99, 100, 101, 102, 103, 104, 105, 106, 107, 108, 109, 110, 111, 112, 113, 114, 115, 116, 117, 118, 119, 120, 121, 122] : Cs) = abc from rfl]
  simp only [e2]
  subst ea eb
  simp only [List.length_nil, Nat.add_zero] at ec
  obtain ⟨s', rfl⟩ : ∃ s', size = s' + 1 := ⟨size - 1, by omega⟩
  have s9 : s' + 1 ≤ 8 := by omega
  have q1 : (((s' + 1 : Nat) : Int)) - 1 = (s' : Int) := by omega
  obtain ⟨c, hc⟩ : ∃ c, nm.drop s' = [c] := by
    have : (nm.drop s').length = 1 := by simp; omega
    exact List.length_eq_one_iff.1 this
  have hcm : c ∈ nm := List.mem_of_mem_drop (by rw [hc]; simp)
  have hl : nm.length ≤ 16777216 := by omega
  obtain ⟨i1, i2⟩ := abc_idx (ed c hcm)
  have q2 : abc.Nodup ∧ c ∈ abc := ⟨abc_nodup, i2⟩
  have q3 : inR 26 = true := rfl
  simp -implicitDefEqProofs -dsimp only [bnd_ok, bnd_ex, bnd_st, frm_ok, frm_ex, frm_st, thn_nx, thn_rt, thn_ex, thn_st, trO_ex, trO_nx, trO_rt, e_var, e_non, e_bl, e_int, e_str, e_glo, e_op1, e_op2, e_op3, e_cmp, e_cmp3, e_and, e_or, e_not, e_ite, e_tup, e_lst, e_dct0, e_set0, e_call, e_new, e_fld, e_lc, e_dc, e_isE, e_isV, e_atE, t_cmp, t_cmp3, t_and, t_or, t_not, t_ite, t_var, t_bl, t_op1, t_op2, t_call, t_fld, t_isE, t_isV, x_nil, x_cons, a_nil, a_ex, a_ec, r_e, r_rng1, r_rng2, s_expr, s_set, s_unp, s_seti, s_setf, s_ret, s_raise, s_ite, s_whl, s_for, s_tr, s_pass, ss_nil, ss_cons, getV, optV, List.getElem?_cons_zero, List.getElem?_cons_succ, List.set_cons_zero, List.set_cons_succ, startE, List.map_cons, List.map_nil, List.length_cons, List.length_nil, List.cons_append, List.nil_append, recv, sem1, sem2, optB, truthR, truth, seqL, isI, calm1, calm2, cfN_hot, cfN_m, cfN_call, cfN_glo, cfN_sub, cfN_sve, cfN_exn, Bool.false_and, Bool.true_and, Bool.and_true, Bool.and_false, Bool.or_true, Bool.true_or, Bool.or_false, Bool.false_or, Bool.not_true, Bool.not_false, if_true, if_false, Bool.false_eq_true, reduceIte, Option.map_some, Option.map_none, reduceCtorEq, ixD, atI_0, atI_1, atI_2, atI_3, atI_4, atI_5, atI_6, atI_7, atI_8, atI_9, atI_10, atI_11, atI_12, atI_nat', decide_true, decide_false, Bool.and_self, Option.isSome_some, Option.isSome_none, eqD_int, eqD_str, List.append_nil, stays_lst', stays_non', stays_tup', stays_str', stays_dic', wipeE, List.foldr_cons, List.foldr_nil, setV, mkL, mkD, items, lineN, Nat.reduceLeDiff,  List.reduceReplicate, Nat.reduceAdd, Nat.reduceSub, slice, cut_from, hc, q1, hl, q2, i1, and_true, q3, show Int.toNat 26 = 26 from rfl]
  have l3 : abc.length ≤ 16777216 := by decide
  have hlast : c - 97 < 26 := by have := ed c hcm; omega
  generalize c - 97 = last at hlast
  have hwl : (nm.take s').length = s' := by simp; omega
  have hwc : ∀ c ∈ nm.take s', 97 ≤ c ∧ c ≤ 122 := fun c h => ed c (List.mem_of_mem_take h)
  generalize hwt : nm.take s' = w at hwl hwc
  have fin : ∀ (x : Cs), x.take s' = w → x.length = s' + 1 → (∀ c ∈ x, 97 ≤ c ∧ c ≤ 122) → isNameC x := fun x _ l c => ⟨by omega, by omega, c⟩
  have key := forGo_rule (tg := [7]) (st := fun _ => true) (b := evSs (cfN T n false h.length) (Cm.name_b2 d))
    (fun xs σ h => ∃ (k : Nat) (x : Cs) (kv : Option Sl), xs = rngL k (26 - k) ∧ k ≤ 26 ∧ σ = [some (.v (.box j)), some (.v (.lst (taken.map .str))), some (.v (.int many)), some (.v (.str abc)), some (.v (.int num')), some (.v (.int ((s' + 1 : Nat) : Int))), some (.v (.str x)), kv, some (.v (.int last))] ∧ h = h2 ∧ x.take s' = w ∧ x.length = s' + 1 ∧ (∀ c ∈ x, 97 ≤ c ∧ c ≤ 122) ∧ ∀ i, i < k → (w ++ [97 + (last + i) % 26]) ∈ taken)
    (fun d h => ∃ x, d = .str x ∧ h = h2 ∧ isNameC x ∧ x ∉ taken)
    (fun _ _ _ _ => rfl) (by
      rintro x r σ h' ⟨k, nm', kv, hx, hk, rfl, rfl, g1, g2, g3, g4⟩
      have hk2 : k < 26 := by
        by_cases e : k = 26
        · subst e; cases hx
        · omega
      rw [show 26 - k = (25 - k) + 1 by omega, rngL_cons] at hx
      cases hx
      refine ⟨_, rfl, ?_⟩
      have i1 : L2.atI abc (((last : Int) + (k : Int)) % 26) = some (97 + (last + k) % 26) := by
        rw [show ((last : Int) + (k : Int)) % 26 = (((last + k) % 26 : Nat) : Int) by omega, atI_nat', abc_get (by omega)]
      have l2 : nm'.length ≤ 16777216 := by omega
      have l4 : w.length + 1 ≤ 16777216 := by omega
      have hmod := mod_ok (i := (last : Int) + (k : Int)) (h := h') (show (0 : Int) < 26 by decide)
      have hx' : ∀ c ∈ w ++ [97 + (last + k) % 26], 97 ≤ c ∧ c ≤ 122 := by
        intro c hc'
        simp only [List.mem_append, List.mem_singleton] at hc'
        rcases hc' with hc' | rfl
        · exact hwc c hc'
        · omega
      by_cases ht : (w ++ [97 + (last + k) % 26]) ∈ taken
      · left
        simp -implicitDefEqProofs -dsimp only [Cm.name_b2, bnd_ok, bnd_ex, bnd_st, frm_ok, frm_ex, frm_st, thn_nx, thn_rt, thn_ex, thn_st, trO_ex, trO_nx, trO_rt, e_var, e_non, e_bl, e_int, e_str, e_glo, e_op1, e_op2, e_op3, e_cmp, e_cmp3, e_and, e_or, e_not, e_ite, e_tup, e_lst, e_dct0, e_set0, e_call, e_new, e_fld, e_lc, e_dc, e_isE, e_isV, e_atE, t_cmp, t_cmp3, t_and, t_or, t_not, t_ite, t_var, t_bl, t_op1, t_op2, t_call, t_fld, t_isE, t_isV, x_nil, x_cons, a_nil, a_ex, a_ec, r_e, r_rng1, r_rng2, s_expr, s_set, s_unp, s_seti, s_setf, s_ret, s_raise, s_ite, s_whl, s_for, s_tr, s_pass, ss_nil, ss_cons, getV, optV, List.getElem?_cons_zero, List.getElem?_cons_succ, List.set_cons_zero, List.set_cons_succ, startE, List.map_cons, List.map_nil, List.length_cons, List.length_nil, List.cons_append, List.nil_append, recv, sem1, sem2, optB, truthR, truth, seqL, isI, calm1, calm2, cfN_hot, cfN_m, cfN_call, cfN_glo, cfN_sub, cfN_sve, cfN_exn, Bool.false_and, Bool.true_and, Bool.and_true, Bool.and_false, Bool.or_true, Bool.true_or, Bool.or_false, Bool.false_or, Bool.not_true, Bool.not_false, if_true, if_false, Bool.false_eq_true, reduceIte, Option.map_some, Option.map_none, reduceCtorEq, ixD, atI_0, atI_1, atI_2, atI_3, atI_4, atI_5, atI_6, atI_7, atI_8, atI_9, atI_10, atI_11, atI_12, atI_nat', decide_true, decide_false, Bool.and_self, Option.isSome_some, Option.isSome_none, eqD_int, eqD_str, List.append_nil, stays_lst', stays_non', stays_tup', stays_str', stays_dic', wipeE, List.foldr_cons, List.foldr_nil, setV, mkL, mkD, items, lineN, Nat.reduceLeDiff,  List.reduceReplicate, Nat.reduceAdd, Nat.reduceSub, slice, cut_to, q1, l2, g1, hmod, i1, l3, l4, inD_strs, ht]
        refine ⟨_, _, rfl, k + 1, _, some (.v (.int k)), ?_, by omega, rfl, rfl, ?_, ?_, hx', ?_⟩
        · rw [show 26 - (k + 1) = 25 - k by omega]; rfl
        · rw [← hwl]; simp
        · simp [hwl]
        · intro i hi
          by_cases e : i = k
          · subst e; exact ht
          · exact g4 i (by omega)
      · right
        simp -implicitDefEqProofs -dsimp only [Cm.name_b2, bnd_ok, bnd_ex, bnd_st, frm_ok, frm_ex, frm_st, thn_nx, thn_rt, thn_ex, thn_st, trO_ex, trO_nx, trO_rt, e_var, e_non, e_bl, e_int, e_str, e_glo, e_op1, e_op2, e_op3, e_cmp, e_cmp3, e_and, e_or, e_not, e_ite, e_tup, e_lst, e_dct0, e_set0, e_call, e_new, e_fld, e_lc, e_dc, e_isE, e_isV, e_atE, t_cmp, t_cmp3, t_and, t_or, t_not, t_ite, t_var, t_bl, t_op1, t_op2, t_call, t_fld, t_isE, t_isV, x_nil, x_cons, a_nil, a_ex, a_ec, r_e, r_rng1, r_rng2, s_expr, s_set, s_unp, s_seti, s_setf, s_ret, s_raise, s_ite, s_whl, s_for, s_tr, s_pass, ss_nil, ss_cons, getV, optV, List.getElem?_cons_zero, List.getElem?_cons_succ, List.set_cons_zero, List.set_cons_succ, startE, List.map_cons, List.map_nil, List.length_cons, List.length_nil, List.cons_append, List.nil_append, recv, sem1, sem2, optB, truthR, truth, seqL, isI, calm1, calm2, cfN_hot, cfN_m, cfN_call, cfN_glo, cfN_sub, cfN_sve, cfN_exn, Bool.false_and, Bool.true_and, Bool.and_true, Bool.and_false, Bool.or_true, Bool.true_or, Bool.or_false, Bool.false_or, Bool.not_true, Bool.not_false, if_true, if_false, Bool.false_eq_true, reduceIte, Option.map_some, Option.map_none, reduceCtorEq, ixD, atI_0, atI_1, atI_2, atI_3, atI_4, atI_5, atI_6, atI_7, atI_8, atI_9, atI_10, atI_11, atI_12, atI_nat', decide_true, decide_false, Bool.and_self, Option.isSome_some, Option.isSome_none, eqD_int, eqD_str, List.append_nil, stays_lst', stays_non', stays_tup', stays_str', stays_dic', wipeE, List.foldr_cons, List.foldr_nil, setV, mkL, mkD, items, lineN, Nat.reduceLeDiff,  List.reduceReplicate, Nat.reduceAdd, Nat.reduceSub, slice, cut_to, q1, l2, g1, hmod, i1, l3, l4, inD_strs, ht]
        exact ⟨_, _, rfl, _, rfl, rfl, fin _ (by rw [← hwl]; simp) (by simp [hwl]) hx', ht⟩) (rngL 0 26) _ _ ⟨0, nm, kv, rfl, by omega, rfl, rfl, hwt, by omega, ed, by omega⟩
  have tk : h2.take h.length = h2 := List.take_of_length_le (by simp [u1.1])
  rcases key with ⟨σ3, h3, e3, k, x, kv3, hx, hk, rfl, rfl, g1, g2, g3, g4⟩ | ⟨x', h3, e3, x, rfl, rfl, g1, g2⟩
  · simp -implicitDefEqProofs -dsimp only [e3, bnd_ok, bnd_ex, bnd_st, frm_ok, frm_ex, frm_st, thn_nx, thn_rt, thn_ex, thn_st, trO_ex, trO_nx, trO_rt, e_var, e_non, e_bl, e_int, e_str, e_glo, e_op1, e_op2, e_op3, e_cmp, e_cmp3, e_and, e_or, e_not, e_ite, e_tup, e_lst, e_dct0, e_set0, e_call, e_new, e_fld, e_lc, e_dc, e_isE, e_isV, e_atE, t_cmp, t_cmp3, t_and, t_or, t_not, t_ite, t_var, t_bl, t_op1, t_op2, t_call, t_fld, t_isE, t_isV, x_nil, x_cons, a_nil, a_ex, a_ec, r_e, r_rng1, r_rng2, s_expr, s_set, s_unp, s_seti, s_setf, s_ret, s_raise, s_ite, s_whl, s_for, s_tr, s_pass, ss_nil, ss_cons, getV, optV, List.getElem?_cons_zero, List.getElem?_cons_succ, List.set_cons_zero, List.set_cons_succ, startE, List.map_cons, List.map_nil, List.length_cons, List.length_nil, List.cons_append, List.nil_append, recv, sem1, sem2, optB, truthR, truth, seqL, isI, calm1, calm2, cfN_hot, cfN_m, cfN_call, cfN_glo, cfN_sub, cfN_sve, cfN_exn, Bool.false_and, Bool.true_and, Bool.and_true, Bool.and_false, Bool.or_true, Bool.true_or, Bool.or_false, Bool.false_or, Bool.not_true, Bool.not_false, if_true, if_false, Bool.false_eq_true, reduceIte, Option.map_some, Option.map_none, reduceCtorEq, ixD, atI_0, atI_1, atI_2, atI_3, atI_4, atI_5, atI_6, atI_7, atI_8, atI_9, atI_10, atI_11, atI_12, atI_nat', decide_true, decide_false, Bool.and_self, Option.isSome_some, Option.isSome_none, eqD_int, eqD_str, List.append_nil, stays_lst', stays_non', stays_tup', stays_str', stays_dic', wipeE, List.foldr_cons, List.foldr_nil, setV, mkL, mkD, items, lineN, Nat.reduceLeDiff,  List.reduceReplicate, Nat.reduceAdd, Nat.reduceSub]
    rw [exit_rt rfl tk]
    refine ⟨x, _, rfl, fin x g1 g2 g3, fun ht => ?_, B1, u1⟩
    exfalso
    have hk : k = 26 := by
      by_cases e : k = 26
      · exact e
      · rw [show 26 - k = (25 - k) + 1 by omega, rngL_cons] at hx; cases hx
    subst hk
    have := len_le_of_sub (a := (List.range 26).map fun i => w ++ [97 + (last + i) % 26]) (b := taken) (by
      refine List.nodup_iff_pairwise_ne.2 (List.pairwise_map.2 ((List.pairwise_lt_range (n := 26)).imp_of_mem fun {a b} ha hb hab e => ?_))
      simp only [List.mem_range] at ha hb
      have := List.append_cancel_left e
      simp only [List.cons.injEq, and_true] at this
      omega) (by
      intro y hy
      simp only [List.mem_map, List.mem_range] at hy
      obtain ⟨i, hi, rfl⟩ := hy
      exact g4 i hi)
    simp at this
    omega
  · simp -implicitDefEqProofs -dsimp only [e3, bnd_ok, bnd_ex, bnd_st, frm_ok, frm_ex, frm_st, thn_nx, thn_rt, thn_ex, thn_st, trO_ex, trO_nx, trO_rt, e_var, e_non, e_bl, e_int, e_str, e_glo, e_op1, e_op2, e_op3, e_cmp, e_cmp3, e_and, e_or, e_not, e_ite, e_tup, e_lst, e_dct0, e_set0, e_call, e_new, e_fld, e_lc, e_dc, e_isE, e_isV, e_atE, t_cmp, t_cmp3, t_and, t_or, t_not, t_ite, t_var, t_bl, t_op1, t_op2, t_call, t_fld, t_isE, t_isV, x_nil, x_cons, a_nil, a_ex, a_ec, r_e, r_rng1, r_rng2, s_expr, s_set, s_unp, s_seti, s_setf, s_ret, s_raise, s_ite, s_whl, s_for, s_tr, s_pass, ss_nil, ss_cons, getV, optV, List.getElem?_cons_zero, List.getElem?_cons_succ, List.set_cons_zero, List.set_cons_succ, startE, List.map_cons, List.map_nil, List.length_cons, List.length_nil, List.cons_append, List.nil_append, recv, sem1, sem2, optB, truthR, truth, seqL, isI, calm1, calm2, cfN_hot, cfN_m, cfN_call, cfN_glo, cfN_sub, cfN_sve, cfN_exn, Bool.false_and, Bool.true_and, Bool.and_true, Bool.and_false, Bool.or_true, Bool.true_or, Bool.or_false, Bool.false_or, Bool.not_true, Bool.not_false, if_true, if_false, Bool.false_eq_true, reduceIte, Option.map_some, Option.map_none, reduceCtorEq, ixD, atI_0, atI_1, atI_2, atI_3, atI_4, atI_5, atI_6, atI_7, atI_8, atI_9, atI_10, atI_11, atI_12, atI_nat', decide_true, decide_false, Bool.and_self, Option.isSome_some, Option.isSome_none, eqD_int, eqD_str, List.append_nil, stays_lst', stays_non', stays_tup', stays_str', stays_dic', wipeE, List.foldr_cons, List.foldr_nil, setV, mkL, mkD, items, lineN, Nat.reduceLeDiff,  List.reduceReplicate, Nat.reduceAdd, Nat.reduceSub]
    rw [exit_rt rfl tk]
    exact ⟨x, _, rfl, g1, fun _ => g2, B1, u1⟩

theorem names_ok {T : Tb} {f d nm : Nat} (hf : T.fn f = some (Cm.names d nm)) (Dw : IsDraw T d) (hnm : T.fn nm = some (Cm.name d)) {n mc j r count : Nat} {h : Hb} (hn : 4 ≤ n) (hc : count ≤ 1000) (B : Bag h j (r + 2 * count + 2)) :
    ∃ (ns : List Cs) (h' : Hb), callN T n false mc f [.v (.box j), .v (.int count)] h = .ok (.lst (ns.map .str)) h' ∧ ns.length = count ∧ (∀ x ∈ ns, isNameC x) ∧ (count ≤ 26 → ns.Nodup) ∧ Bag h' j r ∧ Upd j h h' := by
  obtain ⟨n, rfl⟩ : ∃ k, n = k + 1 := ⟨n - 1, by omega⟩
  obtain ⟨v, h1, e1, l1, B1, u1⟩ := draw Dw (n := n) (mc := h.length) 2 (by omega) B (by decide) (by decide)
  rw [show ((2 : Nat) : Int) = 2 from rfl] at e1
  have r1 : inR (count : Int) = true := by unfold inR; exact decide_eq_true (by omega)
  have key : ∀ many : Nat, (many = 2 ∨ many = 26) → ∃ σ' h', forGo [4] (fun _ => true) (evSs (cfN T n false h.length) (Cm.names_b1 d nm)) (rngL 0 count) [some (.v (.box j)), some (.v (.int count)), some (.v (.int many)), some (.v (.lst [])), none] h1 = .nx σ' h' ∧
      ∃ (ns : List Cs) (kv : Option Sl), σ' = [some (.v (.box j)), some (.v (.int count)), some (.v (.int many)), some (.v (.lst (ns.map .str))), kv] ∧ ns.length + ([] : List D).length = count ∧ (∀ x ∈ ns, isNameC x) ∧ (count ≤ 26 → ns.Nodup) ∧ Bag h' j (r + 2 * ([] : List D).length) ∧ Upd j h h' := by
    intro many hm
    refine forGo_nx (fun xs σ h' => ∃ (ns : List Cs) (kv : Option Sl), σ = [some (.v (.box j)), some (.v (.int count)), some (.v (.int many)), some (.v (.lst (ns.map .str))), kv] ∧ ns.length + xs.length = count ∧ (∀ x ∈ ns, isNameC x) ∧ (count ≤ 26 → ns.Nodup) ∧ Bag h' j (r + 2 * xs.length) ∧ Upd j h h') (fun _ _ _ _ => rfl) ?_ (rngL 0 count) _ _ ⟨[], none, rfl, by simp [rngL_length], by simp, by simp, by simpa [rngL_length] using B1, u1⟩
    rintro x rs σ h' ⟨ns, kv, rfl, hl, hn1, hnd, B2, u2⟩
    refine ⟨_, rfl, ?_⟩
    simp only [List.length_cons] at hl B2
    obtain ⟨y, h2, e2, y1, y2, B3, u3⟩ := name_ok hnm Dw (n := n) (mc := h.length) (taken := ns) (r := r + 2 * rs.length) (by omega) (B2.mono (by omega)) hm
    have l2 : (ns.map D.str).length + 1 ≤ 16777216 := by simp; omega
    simp -implicitDefEqProofs -dsimp only [Cm.names_b1, bnd_ok, bnd_ex, bnd_st, frm_ok, frm_ex, frm_st, thn_nx, thn_rt, thn_ex, thn_st, trO_ex, trO_nx, trO_rt, e_var, e_non, e_bl, e_int, e_str, e_glo, e_op1, e_op2, e_op3, e_cmp, e_cmp3, e_and, e_or, e_not, e_ite, e_tup, e_lst, e_dct0, e_set0, e_call, e_new, e_fld, e_lc, e_dc, e_isE, e_isV, e_atE, t_cmp, t_cmp3, t_and, t_or, t_not, t_ite, t_var, t_bl, t_op1, t_op2, t_call, t_fld, t_isE, t_isV, x_nil, x_cons, a_nil, a_ex, a_ec, r_e, r_rng1, r_rng2, s_expr, s_set, s_unp, s_seti, s_setf, s_ret, s_raise, s_ite, s_whl, s_for, s_tr, s_pass, ss_nil, ss_cons, getV, optV, List.getElem?_cons_zero, List.getElem?_cons_succ, List.set_cons_zero, List.set_cons_succ, startE, List.map_cons, List.map_nil, List.length_cons, List.length_nil, List.cons_append, List.nil_append, recv, sem1, sem2, optB, truthR, truth, seqL, isI, calm1, calm2, cfN_hot, cfN_m, cfN_call, cfN_glo, cfN_sub, cfN_sve, cfN_exn, Bool.false_and, Bool.true_and, Bool.and_true, Bool.and_false, Bool.or_true, Bool.true_or, Bool.or_false, Bool.false_or, Bool.not_true, Bool.not_false, if_true, if_false, Bool.false_eq_true, reduceIte, Option.map_some, Option.map_none, reduceCtorEq, ixD, atI_0, atI_1, atI_2, atI_3, atI_4, atI_5, atI_6, atI_7, atI_8, atI_9, atI_10, atI_11, atI_12, atI_nat', decide_true, decide_false, Bool.and_self, Option.isSome_some, Option.isSome_none, eqD_int, eqD_str, List.append_nil, stays_lst', stays_non', stays_tup', stays_str', stays_dic', wipeE, List.foldr_cons, List.foldr_nil, setV, mkL, mkD, items, lineN, Nat.reduceLeDiff,  List.reduceReplicate, Nat.reduceAdd, Nat.reduceSub, e2, l2]
    refine ⟨_, _, rfl, ns ++ [y], some (.v x), by simp, by simp; omega, ?_, ?_, B3, u2.trans u3⟩
    · intro z hz
      simp only [List.mem_append, List.mem_singleton] at hz
      rcases hz with hz | rfl
      · exact hn1 z hz
      · exact y1
    · intro hc26
      refine List.nodup_append.2 ⟨hnd hc26, by simp, ?_⟩
      intro a ha b hb e
      simp only [List.mem_singleton] at hb
      subst hb e
      exact y2 (by omega) ha
  rw [callF hf rfl rfl rfl]
  match v, l1 with
  | 0, _ =>
    obtain ⟨σ', h2, e2, ns, kv, rfl, g1, g2, g3, g4, g5⟩ := key 26 (.inr rfl)
    have e1' : callN T n false h.length d [.v (.box j), .v (.int 2)] h = .ok (.int 0) h1 := e1
    have e2' : forGo [4] (fun _ => true) (evSs (cfN T n false h.length) (Cm.names_b1 d nm)) (rngL 0 count) [some (.v (.box j)), some (.v (.int count)), some (.v (.int 26)), some (.v (.lst [])), none] h1 = _ := e2
    simp -implicitDefEqProofs -dsimp only [Cm.names, bnd_ok, bnd_ex, bnd_st, frm_ok, frm_ex, frm_st, thn_nx, thn_rt, thn_ex, thn_st, trO_ex, trO_nx, trO_rt, e_var, e_non, e_bl, e_int, e_str, e_glo, e_op1, e_op2, e_op3, e_cmp, e_cmp3, e_and, e_or, e_not, e_ite, e_tup, e_lst, e_dct0, e_set0, e_call, e_new, e_fld, e_lc, e_dc, e_isE, e_isV, e_atE, t_cmp, t_cmp3, t_and, t_or, t_not, t_ite, t_var, t_bl, t_op1, t_op2, t_call, t_fld, t_isE, t_isV, x_nil, x_cons, a_nil, a_ex, a_ec, r_e, r_rng1, r_rng2, s_expr, s_set, s_unp, s_seti, s_setf, s_ret, s_raise, s_ite, s_whl, s_for, s_tr, s_pass, ss_nil, ss_cons, getV, optV, List.getElem?_cons_zero, List.getElem?_cons_succ, List.set_cons_zero, List.set_cons_succ, startE, List.map_cons, List.map_nil, List.length_cons, List.length_nil, List.cons_append, List.nil_append, recv, sem1, sem2, optB, truthR, truth, seqL, isI, calm1, calm2, cfN_hot, cfN_m, cfN_call, cfN_glo, cfN_sub, cfN_sve, cfN_exn, Bool.false_and, Bool.true_and, Bool.and_true, Bool.and_false, Bool.or_true, Bool.true_or, Bool.or_false, Bool.false_or, Bool.not_true, Bool.not_false, if_true, if_false, Bool.false_eq_true, reduceIte, Option.map_some, Option.map_none, reduceCtorEq, ixD, atI_0, atI_1, atI_2, atI_3, atI_4, atI_5, atI_6, atI_7, atI_8, atI_9, atI_10, atI_11, atI_12, atI_nat', decide_true, decide_false, Bool.and_self, Option.isSome_some, Option.isSome_none, eqD_int, eqD_str, List.append_nil, stays_lst', stays_non', stays_tup', stays_str', stays_dic', wipeE, List.foldr_cons, List.foldr_nil, setV, mkL, mkD, items, lineN, Nat.reduceLeDiff,  List.reduceReplicate, Nat.reduceAdd, Nat.reduceSub, e1', r1, Int.toNat_natCast, e2', show ((0 : Int) = 1) = False by simp]
    rw [exit_rt (by simp [nb, below, belows_all]) (List.take_of_length_le (by simp [g5.1]))]
    exact ⟨ns, _, rfl, by simpa using g1, g2, g3, by simpa using g4, g5⟩
  | 1, _ =>
    obtain ⟨σ', h2, e2, ns, kv, rfl, g1, g2, g3, g4, g5⟩ := key 2 (.inl rfl)
    have e1' : callN T n false h.length d [.v (.box j), .v (.int 2)] h = .ok (.int 1) h1 := e1
    have e2' : forGo [4] (fun _ => true) (evSs (cfN T n false h.length) (Cm.names_b1 d nm)) (rngL 0 count) [some (.v (.box j)), some (.v (.int count)), some (.v (.int 2)), some (.v (.lst [])), none] h1 = _ := e2
    simp -implicitDefEqProofs -dsimp only [Cm.names, bnd_ok, bnd_ex, bnd_st, frm_ok, frm_ex, frm_st, thn_nx, thn_rt, thn_ex, thn_st, trO_ex, trO_nx, trO_rt, e_var, e_non, e_bl, e_int, e_str, e_glo, e_op1, e_op2, e_op3, e_cmp, e_cmp3, e_and, e_or, e_not, e_ite, e_tup, e_lst, e_dct0, e_set0, e_call, e_new, e_fld, e_lc, e_dc, e_isE, e_isV, e_atE, t_cmp, t_cmp3, t_and, t_or, t_not, t_ite, t_var, t_bl, t_op1, t_op2, t_call, t_fld, t_isE, t_isV, x_nil, x_cons, a_nil, a_ex, a_ec, r_e, r_rng1, r_rng2, s_expr, s_set, s_unp, s_seti, s_setf, s_ret, s_raise, s_ite, s_whl, s_for, s_tr, s_pass, ss_nil, ss_cons, getV, optV, List.getElem?_cons_zero, List.getElem?_cons_succ, List.set_cons_zero, List.set_cons_succ, startE, List.map_cons, List.map_nil, List.length_cons, List.length_nil, List.cons_append, List.nil_append, recv, sem1, sem2, optB, truthR, truth, seqL, isI, calm1, calm2, cfN_hot, cfN_m, cfN_call, cfN_glo, cfN_sub, cfN_sve, cfN_exn, Bool.false_and, Bool.true_and, Bool.and_true, Bool.and_false, Bool.or_true, Bool.true_or, Bool.or_false, Bool.false_or, Bool.not_true, Bool.not_false, if_true, if_false, Bool.false_eq_true, reduceIte, Option.map_some, Option.map_none, reduceCtorEq, ixD, atI_0, atI_1, atI_2, atI_3, atI_4, atI_5, atI_6, atI_7, atI_8, atI_9, atI_10, atI_11, atI_12, atI_nat', decide_true, decide_false, Bool.and_self, Option.isSome_some, Option.isSome_none, eqD_int, eqD_str, List.append_nil, stays_lst', stays_non', stays_tup', stays_str', stays_dic', wipeE, List.foldr_cons, List.foldr_nil, setV, mkL, mkD, items, lineN, Nat.reduceLeDiff,  List.reduceReplicate, Nat.reduceAdd, Nat.reduceSub, e1', r1, Int.toNat_natCast, e2']
    rw [exit_rt (by simp [nb, below, belows_all]) (List.take_of_length_le (by simp [g5.1]))]
    exact ⟨ns, _, rfl, by simpa using g1, g2, g3, by simpa using g4, g5⟩

end Q
end FV

/-! Trees with drawn ways. -/
namespace FV
namespace Q
open PySem

inductive Tr where
  | leaf (x : D) | fork (a b : Tr)
namespace Tr
def paths : Tr → List Cs
  | leaf _ => [[]]
  | fork a b => a.paths.map (48 :: ·) ++ b.paths.map (49 :: ·)
def leaves : Tr → List D
  | leaf x => [x]
  | fork a b => a.leaves ++ b.leaves
def val : Tr → D
  | leaf x => x
  | fork a b => .tup [a.val, b.val]
def hgt : Tr → Nat
  | leaf _ => 0
  | fork a b => max a.hgt b.hgt + 1
theorem len_eq : ∀ t : Tr, t.paths.length = t.leaves.length
  | leaf _ => rfl
  | fork a b => by simp [paths, leaves, len_eq a, len_eq b]
theorem pos : ∀ t : Tr, 0 < t.paths.length
  | leaf _ => by simp [paths]
  | fork a b => by have := pos a; simp [paths]; omega
theorem refill : ∀ (t : Tr) (xs : List D), xs.length = t.paths.length → ∃ t' : Tr, t'.paths = t.paths ∧ t'.leaves = xs
  | leaf _, xs, e => by
    match xs, e with
    | [x], _ => exact ⟨leaf x, rfl, rfl⟩
  | fork a b, xs, e => by
    simp only [paths, List.length_append, List.length_map] at e
    obtain ⟨a', ha, la⟩ := refill a (xs.take a.paths.length) (by simp; omega)
    obtain ⟨b', hb, lb⟩ := refill b (xs.drop a.paths.length) (by simp; omega)
    exact ⟨fork a' b', by simp [paths, ha, hb], by simp [leaves, la, lb]⟩
theorem graft : ∀ (t : Tr) (k : Nat) (p : Cs), t.paths[k]? = some p → ∃ t' : Tr, t'.paths = t.paths.take k ++ [p ++ [48], p ++ [49]] ++ t.paths.drop (k + 1)
  | leaf x, k, p, e => by
    match k, e with
    | 0, e => 
      simp [paths] at e
      subst e
      exact ⟨fork (leaf x) (leaf x), by simp [paths]⟩
    | k + 1, e => simp [paths] at e
  | fork a b, k, p, e => by
    simp only [paths] at e
    by_cases hk : k < a.paths.length
    · rw [List.getElem?_append_left (by simpa using hk), List.getElem?_map] at e
      cases e1 : a.paths[k]? with
      | none => rw [e1] at e; cases e
      | some q =>
        rw [e1] at e
        cases e
        obtain ⟨a', ha⟩ := graft a k q e1
        refine ⟨fork a' b, ?_⟩
        simp only [paths, ha]
        rw [List.take_append_of_le_length (by simp; omega), List.drop_append_of_le_length (by simp; omega)]
        simp [List.map_take, List.map_drop]
    · rw [List.getElem?_append_right (by simpa using hk), List.getElem?_map] at e
      simp only [List.length_map] at e
      cases e1 : b.paths[k - a.paths.length]? with
      | none => rw [e1] at e; cases e
      | some q =>
        rw [e1] at e
        cases e
        obtain ⟨b', hb⟩ := graft b _ q e1
        refine ⟨fork a b', ?_⟩
        simp only [paths, hb]
        rw [List.take_append, List.drop_append, List.take_of_length_le (l := a.paths.map _) (by simp; omega), List.drop_of_length_le (l := a.paths.map _) (by simp; omega)]
        simp only [List.length_map, List.nil_append]
        rw [show k + 1 - a.paths.length = (k - a.paths.length) + 1 by omega]
        simp [List.map_take, List.map_drop]
theorem path_le_hgt : ∀ (t : Tr) (p : Cs), p ∈ t.paths → p.length ≤ t.hgt
  | leaf _, p, h => by simp [paths] at h; subst h; simp
  | fork a b, p, h => by
    simp only [paths, List.mem_append, List.mem_map] at h
    rcases h with ⟨q, hq, rfl⟩ | ⟨q, hq, rfl⟩
    · have := path_le_hgt a q hq; simp [hgt]; omega
    · have := path_le_hgt b q hq; simp [hgt]; omega
theorem hgt_path : ∀ (t : Tr), ∃ p ∈ t.paths, p.length = t.hgt
  | leaf _ => ⟨[], by simp [paths], rfl⟩
  | fork a b => by
    obtain ⟨p, hp, lp⟩ := hgt_path a
    obtain ⟨q, hq, lq⟩ := hgt_path b
    by_cases h : a.hgt ≤ b.hgt
    · exact ⟨49 :: q, by simp [paths, hq], by simp [hgt, lq]; omega⟩
    · exact ⟨48 :: p, by simp [paths, hp], by simp [hgt, lp]; omega⟩
theorem hgt_lt : ∀ (t : Tr), t.hgt < t.paths.length
  | leaf _ => by simp [paths, hgt]
  | fork a b => by
    have := hgt_lt a
    have := hgt_lt b
    simp [paths, hgt]; omega
end Tr

theorem ways_ok {T : Tb} {f d : Nat} (hf : T.fn f = some (Cm.ways d)) (Dw : IsDraw T d) {n mc j r count : Nat} {h : Hb} (hn : 3 ≤ n) (h1 : 1 ≤ count) (hc : count ≤ 1000) (B : Bag h j (r + 2 * count)) :
    ∃ (t : Tr) (h' : Hb), callN T n false mc f [.v (.box j), .v (.int count)] h = .ok (.lst (t.paths.map .str)) h' ∧ t.paths.length = count ∧ Bag h' j r ∧ Upd j h h' := by
  obtain ⟨n, rfl⟩ : ∃ k, n = k + 1 := ⟨n - 1, by omega⟩
  obtain ⟨c, rfl⟩ : ∃ k, count = k + 1 := ⟨count - 1, by omega⟩
  obtain ⟨sh, h1, e1, l1, B1, u1⟩ := draw Dw (n := n) (mc := h.length) (r := r + 2 * c) 4 (by omega) (B.mono (by omega)) (by decide) (by decide)
  rw [show ((4 : Nat) : Int) = 4 from rfl] at e1
  have r1 : inR (c : Int) = true := by unfold inR; exact decide_eq_true (by omega)
  have q1 : (((c + 1 : Nat) : Int)) - 1 = (c : Int) := by omega
  obtain ⟨σ', h2, e2, t, kv, av, rfl, g1, g2, g3, g4⟩ := forGo_nx (tg := [4]) (st := fun _ => true) (b := evSs (cfN T n false h.length) (Cm.ways_b1 d))
    (fun xs σ h' => ∃ (t : Tr) (kv av : Option Sl), σ = [some (.v (.box j)), some (.v (.int ((c + 1 : Nat) : Int))), some (.v (.lst (t.paths.map .str))), some (.v (.int sh)), kv, av] ∧ t.paths.length + xs.length = c + 1 ∧ (∀ p ∈ t.paths, p.length + xs.length ≤ 1000) ∧ Bag h' j (r + 2 * xs.length) ∧ Upd j h h')
    (fun _ _ _ _ => rfl) (by
      rintro x rs σ h' ⟨t, kv, av, rfl, hl, hp, B2, u2⟩
      refine ⟨_, rfl, ?_⟩
      simp only [List.length_cons] at hl B2 hp
      have hpos := t.pos
      obtain ⟨v, h2, e2, l2, B3, u3⟩ := draw Dw (n := n) (mc := h.length) (r := r + 2 * rs.length) t.paths.length (by omega) (B2.mono (by omega)) hpos (by omega)
      have key : ∀ a : Nat, a < t.paths.length → ∃ p, t.paths[a]? = some p ∧ L2.atI (t.paths.map D.str) (a : Int) = some (.str p) ∧ p.length + 1 ≤ 16777216 ∧ ((t.paths.map D.str).take a).length + 2 ≤ 16777216 ∧ ((t.paths.map D.str).take a ++ [D.str (p ++ [48]), D.str (p ++ [49])]).length + ((t.paths.map D.str).drop (a + 1)).length ≤ 16777216 ∧ (a : Int) + 1 = ((a + 1 : Nat) : Int) := by
        intro a ha
        obtain ⟨p, hp'⟩ : ∃ p, t.paths[a]? = some p := ⟨_, List.getElem?_eq_getElem ha⟩
        have := hp p (List.mem_of_getElem? hp')
        exact ⟨p, hp', by rw [atI_nat', List.getElem?_map, hp']; rfl, by omega, by simp; omega, by simp; omega, by omega⟩
      have fin : ∀ (a : Nat) (p : Cs), t.paths[a]? = some p → ∃ t' : Tr, (t.paths.map D.str).take a ++ [D.str (p ++ [48]), D.str (p ++ [49])] ++ (t.paths.map D.str).drop (a + 1) = t'.paths.map D.str ∧ t'.paths.length + rs.length = c + 1 ∧ ∀ p ∈ t'.paths, p.length + rs.length ≤ 1000 := by
        intro a p hp'
        obtain ⟨t', ht⟩ := t.graft a p hp'
        have ha : a < t.paths.length := by
          have := List.getElem?_eq_some_iff.1 hp'
          exact this.1
        refine ⟨t', by simp [ht, List.map_take, List.map_drop], by simp [ht]; omega, fun q hq => ?_⟩
        rw [ht] at hq
        simp only [List.mem_append, List.mem_cons, List.not_mem_nil, or_false] at hq
        have hpp := hp p (List.mem_of_getElem? hp')
        rcases hq with (hq | rfl | rfl) | hq
        · have := hp q (List.mem_of_mem_take hq); omega
        · simp; omega
        · simp; omega
        · have := hp q (List.mem_of_mem_drop hq); omega
      have hlen : ((t.paths.map D.str).length : Int) = (t.paths.length : Int) := by simp
      have hlen1 : (t.paths.length : Int) - 1 = ((t.paths.length - 1 : Nat) : Int) := by omega
      by_cases s1 : sh = 1
      · subst s1
        obtain ⟨p, hp1, hp2, hp3, hp4, hp5, hp6⟩ := key 0 hpos
        obtain ⟨t', a1, a2, a3⟩ := fin 0 p hp1
        simp -implicitDefEqProofs -dsimp only [Cm.ways_b1, bnd_ok, bnd_ex, bnd_st, frm_ok, frm_ex, frm_st, thn_nx, thn_rt, thn_ex, thn_st, trO_ex, trO_nx, trO_rt, e_var, e_non, e_bl, e_int, e_str, e_glo, e_op1, e_op2, e_op3, e_cmp, e_cmp3, e_and, e_or, e_not, e_ite, e_tup, e_lst, e_dct0, e_set0, e_call, e_new, e_fld, e_lc, e_dc, e_isE, e_isV, e_atE, t_cmp, t_cmp3, t_and, t_or, t_not, t_ite, t_var, t_bl, t_op1, t_op2, t_call, t_fld, t_isE, t_isV, x_nil, x_cons, a_nil, a_ex, a_ec, r_e, r_rng1, r_rng2, s_expr, s_set, s_unp, s_seti, s_setf, s_ret, s_raise, s_ite, s_whl, s_for, s_tr, s_pass, ss_nil, ss_cons, getV, optV, List.getElem?_cons_zero, List.getElem?_cons_succ, List.set_cons_zero, List.set_cons_succ, startE, List.map_cons, List.map_nil, List.length_cons, List.length_nil, List.cons_append, List.nil_append, recv, sem1, sem2, optB, truthR, truth, seqL, isI, calm1, calm2, cfN_hot, cfN_m, cfN_call, cfN_glo, cfN_sub, cfN_sve, cfN_exn, Bool.false_and, Bool.true_and, Bool.and_true, Bool.and_false, Bool.or_true, Bool.true_or, Bool.or_false, Bool.false_or, Bool.not_true, Bool.not_false, if_true, if_false, Bool.false_eq_true, reduceIte, Option.map_some, Option.map_none, reduceCtorEq, ixD, atI_0, atI_1, atI_2, atI_3, atI_4, atI_5, atI_6, atI_7, atI_8, atI_9, atI_10, atI_11, atI_12, atI_nat', decide_true, decide_false, Bool.and_self, Option.isSome_some, Option.isSome_none, eqD_int, eqD_str, List.append_nil, stays_lst', stays_non', stays_tup', stays_str', stays_dic', wipeE, List.foldr_cons, List.foldr_nil, setV, mkL, mkD, items, lineN, Nat.reduceLeDiff,  List.reduceReplicate, Nat.reduceAdd, Nat.reduceSub, hlen, e2, show (((1 : Nat) : Int) = 1) = True by simp, show (((1 : Nat) : Int) = 2) = False by simp, slice, show (0 : Int) = ((0 : Nat) : Int) from rfl, cut_to, cut_from, hp2, hp3, hp4, hp5, hp6, a1]
        exact ⟨_, _, rfl, t', some (.v x), _, rfl, a2, a3, B3, u2.trans u3⟩
      · have s1' : ((sh : Int) = 1) = False := by simp; omega
        by_cases s2 : sh = 2
        · subst s2
          obtain ⟨p, hp1, hp2, hp3, hp4, hp5, hp6⟩ := key (t.paths.length - 1) (by omega)
          obtain ⟨t', a1, a2, a3⟩ := fin _ p hp1
          simp -implicitDefEqProofs -dsimp only [Cm.ways_b1, bnd_ok, bnd_ex, bnd_st, frm_ok, frm_ex, frm_st, thn_nx, thn_rt, thn_ex, thn_st, trO_ex, trO_nx, trO_rt, e_var, e_non, e_bl, e_int, e_str, e_glo, e_op1, e_op2, e_op3, e_cmp, e_cmp3, e_and, e_or, e_not, e_ite, e_tup, e_lst, e_dct0, e_set0, e_call, e_new, e_fld, e_lc, e_dc, e_isE, e_isV, e_atE, t_cmp, t_cmp3, t_and, t_or, t_not, t_ite, t_var, t_bl, t_op1, t_op2, t_call, t_fld, t_isE, t_isV, x_nil, x_cons, a_nil, a_ex, a_ec, r_e, r_rng1, r_rng2, s_expr, s_set, s_unp, s_seti, s_setf, s_ret, s_raise, s_ite, s_whl, s_for, s_tr, s_pass, ss_nil, ss_cons, getV, optV, List.getElem?_cons_zero, List.getElem?_cons_succ, List.set_cons_zero, List.set_cons_succ, startE, List.map_cons, List.map_nil, List.length_cons, List.length_nil, List.cons_append, List.nil_append, recv, sem1, sem2, optB, truthR, truth, seqL, isI, calm1, calm2, cfN_hot, cfN_m, cfN_call, cfN_glo, cfN_sub, cfN_sve, cfN_exn, Bool.false_and, Bool.true_and, Bool.and_true, Bool.and_false, Bool.or_true, Bool.true_or, Bool.or_false, Bool.false_or, Bool.not_true, Bool.not_false, if_true, if_false, Bool.false_eq_true, reduceIte, Option.map_some, Option.map_none, reduceCtorEq, ixD, atI_0, atI_1, atI_2, atI_3, atI_4, atI_5, atI_6, atI_7, atI_8, atI_9, atI_10, atI_11, atI_12, atI_nat', decide_true, decide_false, Bool.and_self, Option.isSome_some, Option.isSome_none, eqD_int, eqD_str, List.append_nil, stays_lst', stays_non', stays_tup', stays_str', stays_dic', wipeE, List.foldr_cons, List.foldr_nil, setV, mkL, mkD, items, lineN, Nat.reduceLeDiff,  List.reduceReplicate, Nat.reduceAdd, Nat.reduceSub, hlen, e2, s1', show (((2 : Nat) : Int) = 2) = True by simp, slice, hlen1, cut_to, cut_from, hp2, hp3, hp4, hp5, hp6, a1]
          exact ⟨_, _, rfl, t', some (.v x), _, rfl, a2, a3, B3, u2.trans u3⟩
        · have s2' : ((sh : Int) = 2) = False := by simp; omega
          obtain ⟨p, hp1, hp2, hp3, hp4, hp5, hp6⟩ := key v l2
          obtain ⟨t', a1, a2, a3⟩ := fin _ p hp1
          simp -implicitDefEqProofs -dsimp only [Cm.ways_b1, bnd_ok, bnd_ex, bnd_st, frm_ok, frm_ex, frm_st, thn_nx, thn_rt, thn_ex, thn_st, trO_ex, trO_nx, trO_rt, e_var, e_non, e_bl, e_int, e_str, e_glo, e_op1, e_op2, e_op3, e_cmp, e_cmp3, e_and, e_or, e_not, e_ite, e_tup, e_lst, e_dct0, e_set0, e_call, e_new, e_fld, e_lc, e_dc, e_isE, e_isV, e_atE, t_cmp, t_cmp3, t_and, t_or, t_not, t_ite, t_var, t_bl, t_op1, t_op2, t_call, t_fld, t_isE, t_isV, x_nil, x_cons, a_nil, a_ex, a_ec, r_e, r_rng1, r_rng2, s_expr, s_set, s_unp, s_seti, s_setf, s_ret, s_raise, s_ite, s_whl, s_for, s_tr, s_pass, ss_nil, ss_cons, getV, optV, List.getElem?_cons_zero, List.getElem?_cons_succ, List.set_cons_zero, List.set_cons_succ, startE, List.map_cons, List.map_nil, List.length_cons, List.length_nil, List.cons_append, List.nil_append, recv, sem1, sem2, optB, truthR, truth, seqL, isI, calm1, calm2, cfN_hot, cfN_m, cfN_call, cfN_glo, cfN_sub, cfN_sve, cfN_exn, Bool.false_and, Bool.true_and, Bool.and_true, Bool.and_false, Bool.or_true, Bool.true_or, Bool.or_false, Bool.false_or, Bool.not_true, Bool.not_false, if_true, if_false, Bool.false_eq_true, reduceIte, Option.map_some, Option.map_none, reduceCtorEq, ixD, atI_0, atI_1, atI_2, atI_3, atI_4, atI_5, atI_6, atI_7, atI_8, atI_9, atI_10, atI_11, atI_12, atI_nat', decide_true, decide_false, Bool.and_self, Option.isSome_some, Option.isSome_none, eqD_int, eqD_str, List.append_nil, stays_lst', stays_non', stays_tup', stays_str', stays_dic', wipeE, List.foldr_cons, List.foldr_nil, setV, mkL, mkD, items, lineN, Nat.reduceLeDiff,  List.reduceReplicate, Nat.reduceAdd, Nat.reduceSub, hlen, e2, s1', s2', slice, cut_to, cut_from, hp2, hp3, hp4, hp5, hp6, a1]
          exact ⟨_, _, rfl, t', some (.v x), _, rfl, a2, a3, B3, u2.trans u3⟩) (rngL 0 c) _ _ ⟨.leaf .non, none, none, rfl, by simp [rngL_length, Tr.paths]; omega, by simp [rngL_length, Tr.paths]; omega, by simpa [rngL_length] using B1, u1⟩
  rw [callF hf rfl rfl rfl]
  rw [show ((Tr.leaf .non).paths.map D.str) = [D.str []] from rfl] at e2
  simp -implicitDefEqProofs -dsimp only [Cm.ways, bnd_ok, bnd_ex, bnd_st, frm_ok, frm_ex, frm_st, thn_nx, thn_rt, thn_ex, thn_st, trO_ex, trO_nx, trO_rt, e_var, e_non, e_bl, e_int, e_str, e_glo, e_op1, e_op2, e_op3, e_cmp, e_cmp3, e_and, e_or, e_not, e_ite, e_tup, e_lst, e_dct0, e_set0, e_call, e_new, e_fld, e_lc, e_dc, e_isE, e_isV, e_atE, t_cmp, t_cmp3, t_and, t_or, t_not, t_ite, t_var, t_bl, t_op1, t_op2, t_call, t_fld, t_isE, t_isV, x_nil, x_cons, a_nil, a_ex, a_ec, r_e, r_rng1, r_rng2, s_expr, s_set, s_unp, s_seti, s_setf, s_ret, s_raise, s_ite, s_whl, s_for, s_tr, s_pass, ss_nil, ss_cons, getV, optV, List.getElem?_cons_zero, List.getElem?_cons_succ, List.set_cons_zero, List.set_cons_succ, startE, List.map_cons, List.map_nil, List.length_cons, List.length_nil, List.cons_append, List.nil_append, recv, sem1, sem2, optB, truthR, truth, seqL, isI, calm1, calm2, cfN_hot, cfN_m, cfN_call, cfN_glo, cfN_sub, cfN_sve, cfN_exn, Bool.false_and, Bool.true_and, Bool.and_true, Bool.and_false, Bool.or_true, Bool.true_or, Bool.or_false, Bool.false_or, Bool.not_true, Bool.not_false, if_true, if_false, Bool.false_eq_true, reduceIte, Option.map_some, Option.map_none, reduceCtorEq, ixD, atI_0, atI_1, atI_2, atI_3, atI_4, atI_5, atI_6, atI_7, atI_8, atI_9, atI_10, atI_11, atI_12, atI_nat', decide_true, decide_false, Bool.and_self, Option.isSome_some, Option.isSome_none, eqD_int, eqD_str, List.append_nil, stays_lst', stays_non', stays_tup', stays_str', stays_dic', wipeE, List.foldr_cons, List.foldr_nil, setV, mkL, mkD, items, lineN, Nat.reduceLeDiff,  List.reduceReplicate, Nat.reduceAdd, Nat.reduceSub, e1, q1, r1, Int.toNat_natCast, e2]
  rw [exit_rt (by simp [nb, below, belows_all]) (List.take_of_length_le (by simp [g4.1]))]
  exact ⟨t, _, rfl, by simpa using g1, by simpa using g3, g4⟩

/-! ### rows of (way, value) -/
theorem zip_app {α β : Type} (a b : List α) (c d : List β) (e : a.length = c.length) : (a ++ b).zip (c ++ d) = a.zip c ++ b.zip d := List.zip_append e
def rowD (p : Cs × D) : D := .tup [.str p.1, p.2]
namespace Tr
def rows (t : Tr) : List (Cs × D) := t.paths.zip t.leaves
theorem rows_leaf (x : D) : (leaf x).rows = [([], x)] := rfl
theorem rows_fork (a b : Tr) : (fork a b).rows = a.rows.map (fun p => (48 :: p.1, p.2)) ++ b.rows.map (fun p => (49 :: p.1, p.2)) := by
  simp only [rows, paths, leaves]
  rw [zip_app _ _ _ _ (by simp [len_eq])]
  simp [List.zip_map_left]
  rfl
theorem rows_len (t : Tr) : t.rows.length = t.paths.length := by simp [rows, len_eq]
theorem row_path {t : Tr} {p : Cs × D} (h : p ∈ t.rows) : p.1 ∈ t.paths := (List.of_mem_zip h).1
theorem row_leaf {t : Tr} {p : Cs × D} (h : p ∈ t.rows) : p.2 ∈ t.leaves := (List.of_mem_zip h).2
def small (t : Tr) : Prop := t.paths.length ≤ 1000
theorem small_len {t : Tr} (s : t.small) {p : Cs} (h : p ∈ t.paths) : p.length < 1000 := by
  have := path_le_hgt t p h
  have := hgt_lt t
  unfold small at s
  omega
end Tr
theorem below_tup {m : Nat} {xs : List D} : below m (.tup xs) = belows m xs := by simp [below]
theorem below_lst {m : Nat} {xs : List D} : below m (.lst xs) = belows m xs := by simp [below]
theorem belows_nil {m : Nat} : belows m [] = true := rfl
theorem belows_cons {m : Nat} {x : D} {xs : List D} : belows m (x :: xs) = (below m x && belows m xs) := by simp [belows]
theorem Tr.nb_val : ∀ t : Tr, belows 0 t.leaves = true → nb t.val
  | .leaf x, e => by simpa [Tr.leaves, belows, Tr.val] using e
  | .fork a b, e => by
    rw [belows_all] at e
    have ha := Tr.nb_val a (belows_all.2 fun x hx => e x (by simp [Tr.leaves, hx]))
    have hb := Tr.nb_val b (belows_all.2 fun x hx => e x (by simp [Tr.leaves, hx]))
    simp only [nb] at ha hb ⊢
    simp [Tr.val, below, belows, ha, hb]

/-- the half of the rows whose ways begin with a sign -/
theorem half {c : Cs → Bool} {s : Nat} (o : Nat) (ho : o ≠ s) (hc : ∀ x r, c (x :: r) = decide (x = s)) (a b : List (Cs × D)) :
    ((a.map (fun p => ((s :: p.1, p.2) : Cs × D)) ++ b.map (fun p => (o :: p.1, p.2))).filter fun p => c p.1) = a.map fun p => (s :: p.1, p.2) := by
  rw [List.filter_append]
  have h1 : (a.map (fun p => ((s :: p.1, p.2) : Cs × D))).filter (fun p => c p.1) = a.map fun p => (s :: p.1, p.2) := by
    rw [List.filter_eq_self]
    intro p hp
    obtain ⟨q, _, rfl⟩ := List.mem_map.1 hp
    simp [hc]
  have h2 : (b.map (fun p => ((o :: p.1, p.2) : Cs × D))).filter (fun p => c p.1) = [] := by
    rw [List.filter_eq_nil_iff]
    intro p hp
    obtain ⟨q, _, rfl⟩ := List.mem_map.1 hp
    simp [hc, ho]
  rw [h1, h2, List.append_nil]

/-- a comprehension over rows that takes those whose way begins with a sign, without it -/
theorem rows_half {σ : Env} {h : Hb} {ct : Env → Hb → R Bool} {ev : Env → Hb → R D} {i j s : Nat} {l : List (Cs × D)} (hlen : l.length ≤ lineN)
    (H : ∀ p ∈ l, ∃ σ1, bindT h σ [i, j] (rowD p) = some σ1 ∧ ct σ1 h = .ok (decide (p.1.take 1 = [s])) h ∧ ev σ1 h = .ok (rowD (p.1.drop 1, p.2)) h) :
    lcGo [i, j] σ (fun _ => true) ct ev (l.map rowD) [] h = .ok (((l.filter fun p => decide (p.1.take 1 = [s])).map fun p => (p.1.drop 1, p.2)).map rowD) h := by
  let p : D → Bool := fun d => match d with
    | .tup [.str w, _] => decide (w.take 1 = [s])
    | _ => false
  let f : D → D := fun d => match d with
    | .tup [.str w, x] => rowD (w.drop 1, x)
    | _ => .non
  have e := lcGo_pure (tg := [i, j]) (σ := σ) (st := fun _ => true) (c := ct) (e := ev) p f h rfl (l.map rowD) [] (by
    intro x hx
    obtain ⟨q, hq, rfl⟩ := List.mem_map.1 hx
    obtain ⟨σ1, h1, h2, h3⟩ := H q hq
    exact ⟨σ1, h1, h2, fun _ => h3⟩) (by simpa using hlen)
  rw [e, List.nil_append, List.filter_map, List.map_map, List.map_map]
  rfl

theorem tree_ok {T : Tb} {f : Nat} (hf : T.fn f = some (Cm.tree f)) : ∀ (t : Tr) {n mc : Nat} {h : Hb}, t.hgt < n → t.small → belows 0 t.leaves = true →
    callN T n false mc f [.v (.lst (t.rows.map rowD))] h = .ok t.val h
  | .leaf x, n, mc, h, hn, hs, hb => by
    obtain ⟨n, rfl⟩ : ∃ k, n = k + 1 := ⟨n - 1, by omega⟩
    rw [callF hf rfl rfl rfl]
    simp -implicitDefEqProofs -dsimp only [Cm.tree, Tr.rows_leaf, rowD, bnd_ok, bnd_ex, bnd_st, frm_ok, frm_ex, frm_st, thn_nx, thn_rt, thn_ex, thn_st, trO_ex, trO_nx, trO_rt, e_var, e_non, e_bl, e_int, e_str, e_glo, e_op1, e_op2, e_op3, e_cmp, e_cmp3, e_and, e_or, e_not, e_ite, e_tup, e_lst, e_dct0, e_set0, e_call, e_new, e_fld, e_lc, e_dc, e_isE, e_isV, e_atE, t_cmp, t_cmp3, t_and, t_or, t_not, t_ite, t_var, t_bl, t_op1, t_op2, t_call, t_fld, t_isE, t_isV, x_nil, x_cons, a_nil, a_ex, a_ec, r_e, r_rng1, r_rng2, s_expr, s_set, s_unp, s_seti, s_setf, s_ret, s_raise, s_ite, s_whl, s_for, s_tr, s_pass, ss_nil, ss_cons, getV, optV, List.getElem?_cons_zero, List.getElem?_cons_succ, List.set_cons_zero, List.set_cons_succ, startE, List.map_cons, List.map_nil, List.length_cons, List.length_nil, List.cons_append, List.nil_append, recv, sem1, sem2, optB, truthR, truth, seqL, isI, calm1, calm2, cfN_hot, cfN_m, cfN_call, cfN_glo, cfN_sub, cfN_sve, cfN_exn, Bool.false_and, Bool.true_and, Bool.and_true, Bool.and_false, Bool.or_true, Bool.true_or, Bool.or_false, Bool.false_or, Bool.not_true, Bool.not_false, if_true, if_false, Bool.false_eq_true, reduceIte, Option.map_some, Option.map_none, reduceCtorEq, ixD, atI_0, atI_1, atI_2, atI_3, atI_4, atI_5, atI_6, atI_7, atI_8, atI_9, atI_10, atI_11, atI_12, atI_nat', decide_true, decide_false, Bool.and_self, Option.isSome_some, Option.isSome_none, eqD_int, eqD_str, List.append_nil, stays_lst', stays_non', stays_tup', stays_str', stays_dic', wipeE, List.foldr_cons, List.foldr_nil, setV, mkL, mkD, items, lineN, Nat.reduceLeDiff,  List.reduceReplicate, Nat.reduceAdd, Nat.reduceSub, show (((0 + 1 : Nat) : Int) = 1) = True by simp, show ((1 : Nat) : Int) = 1 from rfl]
    rw [exit_rt (by simpa [Tr.leaves, belows] using hb) (List.take_of_length_le (by simp))]
    rfl
  | .fork a b, n, mc, h, hn, hs, hb => by
    obtain ⟨n, rfl⟩ : ∃ k, n = k + 1 := ⟨n - 1, by omega⟩
    have hpa := a.pos
    have hpb := b.pos
    have hs' : a.paths.length + b.paths.length ≤ 1000 := by simpa [Tr.small, Tr.paths] using hs
    rw [belows_all] at hb
    have hba : belows 0 a.leaves = true := belows_all.2 fun x hx => hb x (show x ∈ (Tr.fork a b).leaves by simp [Tr.leaves, hx])
    have hbb : belows 0 b.leaves = true := belows_all.2 fun x hx => hb x (show x ∈ (Tr.fork a b).leaves by simp [Tr.leaves, hx])
    have ea := tree_ok hf a (n := n) (mc := h.length) (h := h) (by simp [Tr.hgt] at hn; omega) (by unfold Tr.small; omega) hba
    have eb := tree_ok hf b (n := n) (mc := h.length) (h := h) (by simp [Tr.hgt] at hn; omega) (by unfold Tr.small; omega) hbb
    have l1 : (((Tr.fork a b).rows.map rowD).length : Int) = ((a.paths.length + b.paths.length : Nat) : Int) := by simp [Tr.rows_len, Tr.paths]
    have l2 : ((((a.paths.length + b.paths.length : Nat) : Int)) = 1) = False := by simp; omega
    have hl : (Tr.fork a b).rows.length ≤ lineN := by simp [Tr.rows_len, Tr.paths, lineN]; omega
    have hw : ∀ p ∈ (Tr.fork a b).rows, p.1.length ≤ 16777216 := fun p hp => by
      have := Tr.small_len hs (Tr.row_path hp); omega
    have key : ∀ (s o : Nat) (t1 t2 : Tr), o ≠ s → (Tr.fork a b).rows.filter (fun p => decide (p.1.take 1 = [s])) = t1.rows.map (fun p => (s :: p.1, p.2)) → (((Tr.fork a b).rows.filter fun p => decide (p.1.take 1 = [s])).map fun p => (p.1.drop 1, p.2)).map rowD = t1.rows.map rowD := by
      intro s o t1 t2 ho e
      rw [e, List.map_map, List.map_map]
      exact List.map_congr_left fun p _ => rfl
    have k0 := key 48 49 a b (by decide) (by rw [Tr.rows_fork]; exact half (c := fun w => decide (w.take 1 = [48])) 49 (by decide) (fun x r => by simp) _ _)
    have k1 := key 49 48 b a (by decide) (by
      rw [Tr.rows_fork, List.filter_append]
      have := half (c := fun w => decide (w.take 1 = [49])) (s := 49) 48 (by decide) (fun x r => by simp) b.rows a.rows
      rw [List.filter_append] at this
      have h2 : (a.rows.map (fun p => ((48 :: p.1, p.2) : Cs × D))).filter (fun p => decide (p.1.take 1 = [49])) = [] := by
        rw [List.filter_eq_nil_iff]
        intro p hp
        obtain ⟨q, _, rfl⟩ := List.mem_map.1 hp
        simp
      rw [h2, List.append_nil] at this
      rw [h2, List.nil_append, this])
    have z1 : ∀ (σ : Env), σ = [some (.v (.lst ((Tr.fork a b).rows.map rowD))), none, none, none, none] → lcGo [3, 4] σ (fun _ => true) (evT (cfN T n false h.length) (Cm.tree_b1 f)) (evE (cfN T n false h.length) (Cm.tree_b2 f)) ((Tr.fork a b).rows.map rowD) [] h = .ok (a.rows.map rowD) h := by
      rintro σ rfl
      rw [← k0]
      refine rows_half hl ?_
      intro p hp
      have := hw p hp
      refine ⟨_, rfl, ?_, ?_⟩
      · simp -implicitDefEqProofs -dsimp only [Cm.tree_b1, bnd_ok, bnd_ex, bnd_st, frm_ok, frm_ex, frm_st, thn_nx, thn_rt, thn_ex, thn_st, trO_ex, trO_nx, trO_rt, e_var, e_non, e_bl, e_int, e_str, e_glo, e_op1, e_op2, e_op3, e_cmp, e_cmp3, e_and, e_or, e_not, e_ite, e_tup, e_lst, e_dct0, e_set0, e_call, e_new, e_fld, e_lc, e_dc, e_isE, e_isV, e_atE, t_cmp, t_cmp3, t_and, t_or, t_not, t_ite, t_var, t_bl, t_op1, t_op2, t_call, t_fld, t_isE, t_isV, x_nil, x_cons, a_nil, a_ex, a_ec, r_e, r_rng1, r_rng2, s_expr, s_set, s_unp, s_seti, s_setf, s_ret, s_raise, s_ite, s_whl, s_for, s_tr, s_pass, ss_nil, ss_cons, getV, optV, List.getElem?_cons_zero, List.getElem?_cons_succ, List.set_cons_zero, List.set_cons_succ, startE, List.map_cons, List.map_nil, List.length_cons, List.length_nil, List.cons_append, List.nil_append, recv, sem1, sem2, optB, truthR, truth, seqL, isI, calm1, calm2, cfN_hot, cfN_m, cfN_call, cfN_glo, cfN_sub, cfN_sve, cfN_exn, Bool.false_and, Bool.true_and, Bool.and_true, Bool.and_false, Bool.or_true, Bool.true_or, Bool.or_false, Bool.false_or, Bool.not_true, Bool.not_false, if_true, if_false, Bool.false_eq_true, reduceIte, Option.map_some, Option.map_none, reduceCtorEq, ixD, atI_0, atI_1, atI_2, atI_3, atI_4, atI_5, atI_6, atI_7, atI_8, atI_9, atI_10, atI_11, atI_12, atI_nat', decide_true, decide_false, Bool.and_self, Option.isSome_some, Option.isSome_none, eqD_int, eqD_str, List.append_nil, stays_lst', stays_non', stays_tup', stays_str', stays_dic', wipeE, List.foldr_cons, List.foldr_nil, setV, mkL, mkD, items, lineN, Nat.reduceLeDiff,  List.reduceReplicate, Nat.reduceAdd, Nat.reduceSub, slice, show (1 : Int) = ((1 : Nat) : Int) from rfl, cut_to, this, List.zip_cons_cons, List.foldl_cons, List.foldl_nil, List.zip_nil_left]
      · simp -implicitDefEqProofs -dsimp only [Cm.tree_b2, bnd_ok, bnd_ex, bnd_st, frm_ok, frm_ex, frm_st, thn_nx, thn_rt, thn_ex, thn_st, trO_ex, trO_nx, trO_rt, e_var, e_non, e_bl, e_int, e_str, e_glo, e_op1, e_op2, e_op3, e_cmp, e_cmp3, e_and, e_or, e_not, e_ite, e_tup, e_lst, e_dct0, e_set0, e_call, e_new, e_fld, e_lc, e_dc, e_isE, e_isV, e_atE, t_cmp, t_cmp3, t_and, t_or, t_not, t_ite, t_var, t_bl, t_op1, t_op2, t_call, t_fld, t_isE, t_isV, x_nil, x_cons, a_nil, a_ex, a_ec, r_e, r_rng1, r_rng2, s_expr, s_set, s_unp, s_seti, s_setf, s_ret, s_raise, s_ite, s_whl, s_for, s_tr, s_pass, ss_nil, ss_cons, getV, optV, List.getElem?_cons_zero, List.getElem?_cons_succ, List.set_cons_zero, List.set_cons_succ, startE, List.map_cons, List.map_nil, List.length_cons, List.length_nil, List.cons_append, List.nil_append, recv, sem1, sem2, optB, truthR, truth, seqL, isI, calm1, calm2, cfN_hot, cfN_m, cfN_call, cfN_glo, cfN_sub, cfN_sve, cfN_exn, Bool.false_and, Bool.true_and, Bool.and_true, Bool.and_false, Bool.or_true, Bool.true_or, Bool.or_false, Bool.false_or, Bool.not_true, Bool.not_false, if_true, if_false, Bool.false_eq_true, reduceIte, Option.map_some, Option.map_none, reduceCtorEq, ixD, atI_0, atI_1, atI_2, atI_3, atI_4, atI_5, atI_6, atI_7, atI_8, atI_9, atI_10, atI_11, atI_12, atI_nat', decide_true, decide_false, Bool.and_self, Option.isSome_some, Option.isSome_none, eqD_int, eqD_str, List.append_nil, stays_lst', stays_non', stays_tup', stays_str', stays_dic', wipeE, List.foldr_cons, List.foldr_nil, setV, mkL, mkD, items, lineN, Nat.reduceLeDiff,  List.reduceReplicate, Nat.reduceAdd, Nat.reduceSub, slice, show (1 : Int) = ((1 : Nat) : Int) from rfl, cut_from, this, List.zip_cons_cons, List.foldl_cons, List.foldl_nil, List.zip_nil_left]
        rfl
    have z2 : ∀ (σ : Env) (y : Option Sl), σ = [some (.v (.lst ((Tr.fork a b).rows.map rowD))), y, none, none, none] → lcGo [3, 4] σ (fun _ => true) (evT (cfN T n false h.length) (Cm.tree_b3 f)) (evE (cfN T n false h.length) (Cm.tree_b4 f)) ((Tr.fork a b).rows.map rowD) [] h = .ok (b.rows.map rowD) h := by
      rintro σ y rfl
      rw [← k1]
      refine rows_half hl ?_
      intro p hp
      have := hw p hp
      refine ⟨_, rfl, ?_, ?_⟩
      · simp -implicitDefEqProofs -dsimp only [Cm.tree_b3, bnd_ok, bnd_ex, bnd_st, frm_ok, frm_ex, frm_st, thn_nx, thn_rt, thn_ex, thn_st, trO_ex, trO_nx, trO_rt, e_var, e_non, e_bl, e_int, e_str, e_glo, e_op1, e_op2, e_op3, e_cmp, e_cmp3, e_and, e_or, e_not, e_ite, e_tup, e_lst, e_dct0, e_set0, e_call, e_new, e_fld, e_lc, e_dc, e_isE, e_isV, e_atE, t_cmp, t_cmp3, t_and, t_or, t_not, t_ite, t_var, t_bl, t_op1, t_op2, t_call, t_fld, t_isE, t_isV, x_nil, x_cons, a_nil, a_ex, a_ec, r_e, r_rng1, r_rng2, s_expr, s_set, s_unp, s_seti, s_setf, s_ret, s_raise, s_ite, s_whl, s_for, s_tr, s_pass, ss_nil, ss_cons, getV, optV, List.getElem?_cons_zero, List.getElem?_cons_succ, List.set_cons_zero, List.set_cons_succ, startE, List.map_cons, List.map_nil, List.length_cons, List.length_nil, List.cons_append, List.nil_append, recv, sem1, sem2, optB, truthR, truth, seqL, isI, calm1, calm2, cfN_hot, cfN_m, cfN_call, cfN_glo, cfN_sub, cfN_sve, cfN_exn, Bool.false_and, Bool.true_and, Bool.and_true, Bool.and_false, Bool.or_true, Bool.true_or, Bool.or_false, Bool.false_or, Bool.not_true, Bool.not_false, if_true, if_false, Bool.false_eq_true, reduceIte, Option.map_some, Option.map_none, reduceCtorEq, ixD, atI_0, atI_1, atI_2, atI_3, atI_4, atI_5, atI_6, atI_7, atI_8, atI_9, atI_10, atI_11, atI_12, atI_nat', decide_true, decide_false, Bool.and_self, Option.isSome_some, Option.isSome_none, eqD_int, eqD_str, List.append_nil, stays_lst', stays_non', stays_tup', stays_str', stays_dic', wipeE, List.foldr_cons, List.foldr_nil, setV, mkL, mkD, items, lineN, Nat.reduceLeDiff,  List.reduceReplicate, Nat.reduceAdd, Nat.reduceSub, slice, show (1 : Int) = ((1 : Nat) : Int) from rfl, cut_to, this, List.zip_cons_cons, List.foldl_cons, List.foldl_nil, List.zip_nil_left]
      · simp -implicitDefEqProofs -dsimp only [Cm.tree_b4, bnd_ok, bnd_ex, bnd_st, frm_ok, frm_ex, frm_st, thn_nx, thn_rt, thn_ex, thn_st, trO_ex, trO_nx, trO_rt, e_var, e_non, e_bl, e_int, e_str, e_glo, e_op1, e_op2, e_op3, e_cmp, e_cmp3, e_and, e_or, e_not, e_ite, e_tup, e_lst, e_dct0, e_set0, e_call, e_new, e_fld, e_lc, e_dc, e_isE, e_isV, e_atE, t_cmp, t_cmp3, t_and, t_or, t_not, t_ite, t_var, t_bl, t_op1, t_op2, t_call, t_fld, t_isE, t_isV, x_nil, x_cons, a_nil, a_ex, a_ec, r_e, r_rng1, r_rng2, s_expr, s_set, s_unp, s_seti, s_setf, s_ret, s_raise, s_ite, s_whl, s_for, s_tr, s_pass, ss_nil, ss_cons, getV, optV, List.getElem?_cons_zero, List.getElem?_cons_succ, List.set_cons_zero, List.set_cons_succ, startE, List.map_cons, List.map_nil, List.length_cons, List.length_nil, List.cons_append, List.nil_append, recv, sem1, sem2, optB, truthR, truth, seqL, isI, calm1, calm2, cfN_hot, cfN_m, cfN_call, cfN_glo, cfN_sub, cfN_sve, cfN_exn, Bool.false_and, Bool.true_and, Bool.and_true, Bool.and_false, Bool.or_true, Bool.true_or, Bool.or_false, Bool.false_or, Bool.not_true, Bool.not_false, if_true, if_false, Bool.false_eq_true, reduceIte, Option.map_some, Option.map_none, reduceCtorEq, ixD, atI_0, atI_1, atI_2, atI_3, atI_4, atI_5, atI_6, atI_7, atI_8, atI_9, atI_10, atI_11, atI_12, atI_nat', decide_true, decide_false, Bool.and_self, Option.isSome_some, Option.isSome_none, eqD_int, eqD_str, List.append_nil, stays_lst', stays_non', stays_tup', stays_str', stays_dic', wipeE, List.foldr_cons, List.foldr_nil, setV, mkL, mkD, items, lineN, Nat.reduceLeDiff,  List.reduceReplicate, Nat.reduceAdd, Nat.reduceSub, slice, show (1 : Int) = ((1 : Nat) : Int) from rfl, cut_from, this, List.zip_cons_cons, List.foldl_cons, List.foldl_nil, List.zip_nil_left]
        rfl
    rw [callF hf rfl rfl rfl]
    have st : ∀ (h0 : Hb) (xs : List D), stays h0 (.lst xs) = fun _ => true := fun _ _ => rfl
    simp -implicitDefEqProofs -dsimp only [Cm.tree, bnd_ok, bnd_ex, bnd_st, frm_ok, frm_ex, frm_st, thn_nx, thn_rt, thn_ex, thn_st, trO_ex, trO_nx, trO_rt, e_var, e_non, e_bl, e_int, e_str, e_glo, e_op1, e_op2, e_op3, e_cmp, e_cmp3, e_and, e_or, e_not, e_ite, e_tup, e_lst, e_dct0, e_set0, e_call, e_new, e_fld, e_lc, e_dc, e_isE, e_isV, e_atE, t_cmp, t_cmp3, t_and, t_or, t_not, t_ite, t_var, t_bl, t_op1, t_op2, t_call, t_fld, t_isE, t_isV, x_nil, x_cons, a_nil, a_ex, a_ec, r_e, r_rng1, r_rng2, s_expr, s_set, s_unp, s_seti, s_setf, s_ret, s_raise, s_ite, s_whl, s_for, s_tr, s_pass, ss_nil, ss_cons, getV, optV, List.getElem?_cons_zero, List.getElem?_cons_succ, List.set_cons_zero, List.set_cons_succ, startE, List.map_cons, List.map_nil, List.length_cons, List.length_nil, List.cons_append, List.nil_append, recv, sem1, sem2, optB, truthR, truth, seqL, isI, calm1, calm2, cfN_hot, cfN_m, cfN_call, cfN_glo, cfN_sub, cfN_sve, cfN_exn, Bool.false_and, Bool.true_and, Bool.and_true, Bool.and_false, Bool.or_true, Bool.true_or, Bool.or_false, Bool.false_or, Bool.not_true, Bool.not_false, if_true, if_false, Bool.false_eq_true, reduceIte, Option.map_some, Option.map_none, reduceCtorEq, ixD, atI_0, atI_1, atI_2, atI_3, atI_4, atI_5, atI_6, atI_7, atI_8, atI_9, atI_10, atI_11, atI_12, atI_nat', decide_true, decide_false, Bool.and_self, Option.isSome_some, Option.isSome_none, eqD_int, eqD_str, List.append_nil, stays_lst', stays_non', stays_tup', stays_str', stays_dic', wipeE, List.foldr_cons, List.foldr_nil, setV, mkL, mkD, items, lineN, Nat.reduceLeDiff,  List.reduceReplicate, Nat.reduceAdd, Nat.reduceSub, l1, l2, wipeE, List.foldr_cons, List.foldr_nil, st, z1 _ rfl, z2 _ _ rfl, ea, eb]
    exact exit_rt (d := (Tr.fork a b).val) (Tr.nb_val (.fork a b) (belows_all.2 hb)) (List.take_of_length_le (by simp))
end Q
end FV

/-! Trees from ways and names; the forks of ways. -/
namespace FV
namespace Q
open PySem

theorem zip_range {α β : Type} (a : List α) (b : List β) (e : a.length = b.length) : a.zip b = (List.range a.length).filterMap fun k => match a[k]?, b[k]? with
    | some x, some y => some (x, y)
    | _, _ => none := by
  induction a generalizing b with
  | nil => simp
  | cons x a ih =>
    match b, e with
    | y :: b, e =>
      simp only [List.length_cons, List.range_succ_eq_map, List.filterMap_cons, List.getElem?_cons_zero, List.zip_cons_cons, List.filterMap_map]
      rw [ih b (by simpa using e)]
      rfl

theorem made_ok {T : Tb} {f g : Nat} (hf : T.fn f = some (Cm.made g)) (hg : T.fn g = some (Cm.tree g)) (t : Tr) {n mc : Nat} {h : Hb} (hn : t.hgt + 2 ≤ n) (hs : t.small) (hb : belows 0 t.leaves = true) :
    callN T n false mc f [.v (.lst (t.paths.map .str)), .v (.lst t.leaves)] h = .ok t.val h := by
  obtain ⟨n, rfl⟩ : ∃ k, n = k + 1 := ⟨n - 1, by omega⟩
  have hl : t.leaves.length = t.paths.length := (Tr.len_eq t).symm
  have hs0 : t.paths.length ≤ 1000 := hs
  have r1 : inR (t.leaves.length : Int) = true := by unfold inR; exact decide_eq_true (by omega)
  have z1 : ∀ σ : Env, σ = [some (.v (.lst (t.paths.map .str))), some (.v (.lst t.leaves)), none] → lcGo [2] σ (fun _ => true) (evT (cfN T n false h.length) (.bl true)) (evE (cfN T n false h.length) (Cm.made_b1 g)) (rngL 0 t.leaves.length) [] h = .ok (t.rows.map rowD) h := by
    rintro σ rfl
    rw [lc_rng (fun _ => true) (fun k => match t.paths[k]?, t.leaves[k]? with | some x, some y => rowD (x, y) | _, _ => .non) (by unfold lineN; omega) ?H]
    · refine congrArg (fun l => R.ok l h) ?_
      rw [List.filter_eq_self.2 (by simp)]
      unfold Tr.rows
      refine List.ext_getElem (by simp [hl]) ?_
      intro k h1 h2
      simp at h1 h2
      simp [List.getElem?_eq_getElem (show k < t.paths.length by omega), List.getElem?_eq_getElem h1]
    · intro k hk
      have hk2 : k < t.paths.length := by omega
      refine ⟨t_bl, fun _ => ?_⟩
      simp -implicitDefEqProofs -dsimp only [Cm.made_b1, Out.andThen_nx, Out.andThen_rt, Out.andThen_ex, Out.andThen_st, R.bind_ok, R.bind_ex, R.bind_st, R.nox_ok, fromR_ok, fromR_ex, fromR_st, bnd_ok, bnd_ex, bnd_st, frm_ok, frm_ex, frm_st, thn_nx, thn_rt, thn_ex, thn_st, trO_ex, trO_nx, trO_rt, e_var, e_non, e_bl, e_int, e_str, e_glo, e_op1, e_op2, e_op3, e_cmp, e_cmp3, e_and, e_or, e_not, e_ite, e_tup, e_lst, e_dct0, e_set0, e_call, e_new, e_fld, e_lc, e_dc, e_isE, e_isV, e_atE, t_cmp, t_cmp3, t_and, t_or, t_not, t_ite, t_var, t_bl, t_op1, t_op2, t_call, t_fld, t_isE, t_isV, x_nil, x_cons, a_nil, a_ex, a_ec, r_e, r_rng1, r_rng2, s_expr, s_set, s_unp, s_seti, s_setf, s_ret, s_raise, s_ite, s_whl, s_for, s_tr, s_pass, ss_nil, ss_cons, getV, optV, List.getElem?_cons_zero, List.getElem?_cons_succ, List.set_cons_zero, List.set_cons_succ, startE, List.map_cons, List.map_nil, List.length_cons, List.length_nil, List.cons_append, List.nil_append, recv, sem1, sem2, optB, truthR, truth, seqL, isI, calm1, calm2, cfN_hot, cfN_m, cfN_call, cfN_glo, cfN_sub, cfN_sve, cfN_exn, Bool.false_and, Bool.true_and, Bool.and_true, Bool.and_false, Bool.or_true, Bool.true_or, Bool.or_false, Bool.false_or, Bool.not_true, Bool.not_false, if_true, if_false, Bool.false_eq_true, reduceIte, Option.map_some, Option.map_none, reduceCtorEq, ixD, atI_0, atI_1, atI_2, atI_3, atI_4, atI_5, atI_6, atI_7, atI_8, atI_9, atI_10, atI_11, atI_12, atI_nat', decide_true, decide_false, Bool.and_self, Option.isSome_some, Option.isSome_none, eqD_int, eqD_str, List.append_nil, stays_lst', stays_non', stays_tup', stays_str', stays_dic', wipeE, List.foldr_cons, List.foldr_nil, setV, mkL, mkD, items, lineN, Nat.reduceLeDiff,  List.reduceReplicate, Nat.reduceAdd, Nat.reduceSub, List.getElem?_map, List.getElem?_eq_getElem hk, List.getElem?_eq_getElem hk2]
      rfl
  rw [callF hf rfl rfl rfl]
  have e1 := tree_ok hg t (n := n) (mc := h.length) (h := h) (by omega) hs hb
  simp -implicitDefEqProofs -dsimp only [Cm.made, Out.andThen_nx, Out.andThen_rt, Out.andThen_ex, Out.andThen_st, R.bind_ok, R.bind_ex, R.bind_st, R.nox_ok, fromR_ok, fromR_ex, fromR_st, bnd_ok, bnd_ex, bnd_st, frm_ok, frm_ex, frm_st, thn_nx, thn_rt, thn_ex, thn_st, trO_ex, trO_nx, trO_rt, e_var, e_non, e_bl, e_int, e_str, e_glo, e_op1, e_op2, e_op3, e_cmp, e_cmp3, e_and, e_or, e_not, e_ite, e_tup, e_lst, e_dct0, e_set0, e_call, e_new, e_fld, e_lc, e_dc, e_isE, e_isV, e_atE, t_cmp, t_cmp3, t_and, t_or, t_not, t_ite, t_var, t_bl, t_op1, t_op2, t_call, t_fld, t_isE, t_isV, x_nil, x_cons, a_nil, a_ex, a_ec, r_e, r_rng1, r_rng2, s_expr, s_set, s_unp, s_seti, s_setf, s_ret, s_raise, s_ite, s_whl, s_for, s_tr, s_pass, ss_nil, ss_cons, getV, optV, List.getElem?_cons_zero, List.getElem?_cons_succ, List.set_cons_zero, List.set_cons_succ, startE, List.map_cons, List.map_nil, List.length_cons, List.length_nil, List.cons_append, List.nil_append, recv, sem1, sem2, optB, truthR, truth, seqL, isI, calm1, calm2, cfN_hot, cfN_m, cfN_call, cfN_glo, cfN_sub, cfN_sve, cfN_exn, Bool.false_and, Bool.true_and, Bool.and_true, Bool.and_false, Bool.or_true, Bool.true_or, Bool.or_false, Bool.false_or, Bool.not_true, Bool.not_false, if_true, if_false, Bool.false_eq_true, reduceIte, Option.map_some, Option.map_none, reduceCtorEq, ixD, atI_0, atI_1, atI_2, atI_3, atI_4, atI_5, atI_6, atI_7, atI_8, atI_9, atI_10, atI_11, atI_12, atI_nat', decide_true, decide_false, Bool.and_self, Option.isSome_some, Option.isSome_none, eqD_int, eqD_str, List.append_nil, stays_lst', stays_non', stays_tup', stays_str', stays_dic', wipeE, List.foldr_cons, List.foldr_nil, setV, mkL, mkD, items, lineN, Nat.reduceLeDiff,  List.reduceReplicate, Nat.reduceAdd, Nat.reduceSub, r1, Int.toNat_natCast, z1 _ rfl, e1]
  exact exit_rt (d := t.val) (Tr.nb_val t hb) (List.take_of_length_le (Nat.le_refl _))

/-! ### forks -/
namespace Tr
def fks : Tr → List Cs
  | leaf _ => []
  | fork a b => [] :: (a.fks.map (48 :: ·) ++ b.fks.map (49 :: ·))
end Tr
def stepK (u : Cs) (acc : List Cs) (k : Nat) : List Cs := if u.take k ∈ acc then acc else acc ++ [u.take k]
def stepF (acc : List Cs) (u : Cs) : List Cs := (List.range u.length).foldl (stepK u) acc
theorem stepK_all {u : Cs} {acc : List Cs} : ∀ {m : Nat}, (∀ k, k < m → u.take k ∈ acc) → (List.range m).foldl (stepK u) acc = acc
  | 0, _ => rfl
  | m + 1, H => by
    rw [List.range_succ, List.foldl_append, stepK_all fun k hk => H k (by omega)]
    simp [stepK, H m (by omega)]
theorem stepF_more {u p : Cs} {acc : List Cs} {m : Nat} (hm : m < u.length) (hp : u.take m = p) (H : ∀ k, k < m → u.take k ∈ acc) (hn : p ∉ acc) : stepF acc u = stepF (acc ++ [p]) u := by
  unfold stepF
  rw [show u.length = (m + 1) + (u.length - (m + 1)) by omega, List.range_add, List.foldl_append, List.foldl_append]
  have e1 : (List.range (m + 1)).foldl (stepK u) acc = acc ++ [p] := by
    rw [List.range_succ, List.foldl_append, stepK_all H]
    simp [stepK, hp, hn]
  have e2 : (List.range (m + 1)).foldl (stepK u) (acc ++ [p]) = acc ++ [p] := by
    refine stepK_all fun k hk => ?_
    by_cases e : k = m
    · subst e; simp [hp]
    · exact List.mem_append_left _ (H k (by omega))
  rw [e1, e2]
theorem fks_of : ∀ (t : Tr) (p : Cs) (acc : List Cs), (∀ k, k < p.length → p.take k ∈ acc) → (∀ q ∈ acc, ¬ p <+: q) → (t.paths.map (p ++ ·)).foldl stepF acc = acc ++ t.fks.map (p ++ ·)
  | .leaf _, p, acc, H, _ => by
    simp only [Tr.paths, Tr.fks, List.map_cons, List.map_nil, List.append_nil, List.foldl_cons, List.foldl_nil]
    exact stepK_all H
  | .fork a b, p, acc, H, hn => by
    have hpn : p ∉ acc := fun h => hn p h (List.prefix_refl p)
    have e1 : (a.paths.map (fun w => p ++ 48 :: w)).foldl stepF acc = (a.paths.map (fun w => (p ++ [48]) ++ w)).foldl stepF (acc ++ [p]) := by
      have : (fun w : Cs => p ++ 48 :: w) = fun w => (p ++ [48]) ++ w := by funext w; simp
      rw [this]
      obtain ⟨w, r, e⟩ : ∃ w r, a.paths = w :: r := by
        have := a.pos
        match a.paths, this with
        | w :: r, _ => exact ⟨w, r, rfl⟩
      rw [e]
      simp only [List.map_cons, List.foldl_cons]
      rw [stepF_more (u := (p ++ [48]) ++ w) (p := p) (m := p.length) (by simp) (by simp) (fun k hk => by
        have := H k hk
        rw [List.append_assoc, List.take_append_of_le_length (by omega)]
        exact this) hpn]
    have e2 := fks_of a (p ++ [48]) (acc ++ [p]) (fun k hk => by
      simp only [List.length_append, List.length_singleton] at hk
      by_cases e : k = p.length
      · subst e; simp
      · rw [List.take_append_of_le_length (by omega)]
        exact List.mem_append_left _ (H k (by omega))) (fun q hq hpq => by
      simp only [List.mem_append, List.mem_singleton] at hq
      rcases hq with hq | rfl
      · exact hn q hq ((List.prefix_append p [48]).trans hpq)
      · have := hpq.length_le; simp at this; omega)
    have e3 := fks_of b (p ++ [49]) (acc ++ [p] ++ a.fks.map ((p ++ [48]) ++ ·)) (fun k hk => by
      simp only [List.length_append, List.length_singleton] at hk
      by_cases e : k = p.length
      · subst e; simp
      · rw [List.take_append_of_le_length (by omega)]
        exact List.mem_append_left _ (List.mem_append_left _ (H k (by omega)))) (fun q hq hpq => by
      simp only [List.mem_append, List.mem_singleton, List.mem_map] at hq
      rcases hq with (hq | rfl) | ⟨w, _, rfl⟩
      · exact hn q hq ((List.prefix_append p [49]).trans hpq)
      · have := hpq.length_le; simp at this; omega
      · rw [List.append_assoc, List.prefix_append_right_inj] at hpq
        simp at hpq)
    simp only [Tr.paths, List.map_append, List.map_map, List.foldl_append]
    have c1 : ((fun x => p ++ x) ∘ fun x => 48 :: x : Cs → Cs) = fun w => p ++ 48 :: w := rfl
    have c2 : ((fun x => p ++ x) ∘ fun x => 49 :: x : Cs → Cs) = fun w => (p ++ [49]) ++ w := by funext w; simp
    rw [c1, e1, e2, c2, e3]
    have c3 : ((fun x => p ++ x) ∘ fun x => 49 :: x : Cs → Cs) = fun w => (p ++ [49]) ++ w := c2
    have c4 : ((fun x => p ++ x) ∘ fun x => 48 :: x : Cs → Cs) = fun w => (p ++ [48]) ++ w := by funext w; simp
    simp only [Tr.fks, List.map_cons, List.map_append, List.map_map, c3, c4]
    simp
theorem fks_all (t : Tr) : t.paths.foldl stepF [] = t.fks := by
  have := fks_of t [] [] (by simp) (by simp)
  simpa using this

theorem forks_ok {T : Tb} {f : Nat} (hf : T.fn f = some Cm.forks) (t : Tr) {n mc : Nat} {h : Hb} (hn : 1 ≤ n) (hs : t.small) :
    callN T n false mc f [.v (.lst (t.paths.map .str))] h = .ok (.lst (t.fks.map .str)) h := by
  obtain ⟨n, rfl⟩ : ∃ k, n = k + 1 := ⟨n - 1, by omega⟩
  have inner : ∀ (u : Cs) (acc : List Cs) (kv : Option Sl), u.length < 1000 → acc.length ≤ 1000000 → ∃ kv', forGo [3] (fun _ => true) (evSs (cfN T n false h.length) Cm.forks_b1) (rngL 0 u.length) [some (.v (.lst (t.paths.map .str))), some (.v (.lst (acc.map .str))), some (.v (.str u)), kv] h = .nx [some (.v (.lst (t.paths.map .str))), some (.v (.lst ((stepF acc u).map .str))), some (.v (.str u)), kv'] h ∧ (stepF acc u).length ≤ acc.length + u.length := by
    intro u acc kv hu hacc
    obtain ⟨σ', h', e, acc', m, kv', hm, rfl, rfl, a1, a2⟩ := forGo_nx (tg := [3]) (st := fun _ => true) (b := evSs (cfN T n false h.length) Cm.forks_b1)
      (fun xs σ h' => ∃ (acc' : List Cs) (m : Nat) (kv' : Option Sl), xs = rngL m (u.length - m) ∧ σ = [some (.v (.lst (t.paths.map .str))), some (.v (.lst (acc'.map .str))), some (.v (.str u)), kv'] ∧ h' = h ∧ (m ≤ u.length ∧ (List.range m).foldl (stepK u) acc = acc') ∧ acc'.length ≤ acc.length + m)
      (fun _ _ _ _ => rfl) (by
        rintro x rs σ h' ⟨acc', m, kv', hx, rfl, rfl, ⟨a1, a2⟩, a3⟩
        have hm : m < u.length := by
          by_cases e : m = u.length
          · subst e; rw [Nat.sub_self] at hx; cases hx
          · omega
        rw [show u.length - m = (u.length - (m + 1)) + 1 by omega, rngL_cons] at hx
        cases hx
        refine ⟨_, rfl, ?_⟩
        have l1 : u.length ≤ 16777216 := by omega
        have l2 : (acc'.map D.str).length + 1 ≤ 16777216 := by simp; omega
        by_cases hin : u.take m ∈ acc'
        · simp -implicitDefEqProofs -dsimp only [Cm.forks_b1, Out.andThen_nx, Out.andThen_rt, Out.andThen_ex, Out.andThen_st, R.bind_ok, R.bind_ex, R.bind_st, R.nox_ok, fromR_ok, fromR_ex, fromR_st, bnd_ok, bnd_ex, bnd_st, frm_ok, frm_ex, frm_st, thn_nx, thn_rt, thn_ex, thn_st, trO_ex, trO_nx, trO_rt, e_var, e_non, e_bl, e_int, e_str, e_glo, e_op1, e_op2, e_op3, e_cmp, e_cmp3, e_and, e_or, e_not, e_ite, e_tup, e_lst, e_dct0, e_set0, e_call, e_new, e_fld, e_lc, e_dc, e_isE, e_isV, e_atE, t_cmp, t_cmp3, t_and, t_or, t_not, t_ite, t_var, t_bl, t_op1, t_op2, t_call, t_fld, t_isE, t_isV, x_nil, x_cons, a_nil, a_ex, a_ec, r_e, r_rng1, r_rng2, s_expr, s_set, s_unp, s_seti, s_setf, s_ret, s_raise, s_ite, s_whl, s_for, s_tr, s_pass, ss_nil, ss_cons, getV, optV, List.getElem?_cons_zero, List.getElem?_cons_succ, List.set_cons_zero, List.set_cons_succ, startE, List.map_cons, List.map_nil, List.length_cons, List.length_nil, List.cons_append, List.nil_append, recv, sem1, sem2, optB, truthR, truth, seqL, isI, calm1, calm2, cfN_hot, cfN_m, cfN_call, cfN_glo, cfN_sub, cfN_sve, cfN_exn, Bool.false_and, Bool.true_and, Bool.and_true, Bool.and_false, Bool.or_true, Bool.true_or, Bool.or_false, Bool.false_or, Bool.not_true, Bool.not_false, if_true, if_false, Bool.false_eq_true, reduceIte, Option.map_some, Option.map_none, reduceCtorEq, ixD, atI_0, atI_1, atI_2, atI_3, atI_4, atI_5, atI_6, atI_7, atI_8, atI_9, atI_10, atI_11, atI_12, atI_nat', decide_true, decide_false, Bool.and_self, Option.isSome_some, Option.isSome_none, eqD_int, eqD_str, List.append_nil, stays_lst', stays_non', stays_tup', stays_str', stays_dic', wipeE, List.foldr_cons, List.foldr_nil, setV, mkL, mkD, items, lineN, Nat.reduceLeDiff,  List.reduceReplicate, Nat.reduceAdd, Nat.reduceSub, slice, cut_to, l1, inD_strs, hin]
          refine ⟨_, _, rfl, acc', m + 1, some (.v (.int m)), rfl, rfl, rfl, ⟨by omega, ?_⟩, by omega⟩
          rw [List.range_succ, List.foldl_append, a2]
          simp [stepK, hin]
        · simp -implicitDefEqProofs -dsimp only [Cm.forks_b1, Out.andThen_nx, Out.andThen_rt, Out.andThen_ex, Out.andThen_st, R.bind_ok, R.bind_ex, R.bind_st, R.nox_ok, fromR_ok, fromR_ex, fromR_st, bnd_ok, bnd_ex, bnd_st, frm_ok, frm_ex, frm_st, thn_nx, thn_rt, thn_ex, thn_st, trO_ex, trO_nx, trO_rt, e_var, e_non, e_bl, e_int, e_str, e_glo, e_op1, e_op2, e_op3, e_cmp, e_cmp3, e_and, e_or, e_not, e_ite, e_tup, e_lst, e_dct0, e_set0, e_call, e_new, e_fld, e_lc, e_dc, e_isE, e_isV, e_atE, t_cmp, t_cmp3, t_and, t_or, t_not, t_ite, t_var, t_bl, t_op1, t_op2, t_call, t_fld, t_isE, t_isV, x_nil, x_cons, a_nil, a_ex, a_ec, r_e, r_rng1, r_rng2, s_expr, s_set, s_unp, s_seti, s_setf, s_ret, s_raise, s_ite, s_whl, s_for, s_tr, s_pass, ss_nil, ss_cons, getV, optV, List.getElem?_cons_zero, List.getElem?_cons_succ, List.set_cons_zero, List.set_cons_succ, startE, List.map_cons, List.map_nil, List.length_cons, List.length_nil, List.cons_append, List.nil_append, recv, sem1, sem2, optB, truthR, truth, seqL, isI, calm1, calm2, cfN_hot, cfN_m, cfN_call, cfN_glo, cfN_sub, cfN_sve, cfN_exn, Bool.false_and, Bool.true_and, Bool.and_true, Bool.and_false, Bool.or_true, Bool.true_or, Bool.or_false, Bool.false_or, Bool.not_true, Bool.not_false, if_true, if_false, Bool.false_eq_true, reduceIte, Option.map_some, Option.map_none, reduceCtorEq, ixD, atI_0, atI_1, atI_2, atI_3, atI_4, atI_5, atI_6, atI_7, atI_8, atI_9, atI_10, atI_11, atI_12, atI_nat', decide_true, decide_false, Bool.and_self, Option.isSome_some, Option.isSome_none, eqD_int, eqD_str, List.append_nil, stays_lst', stays_non', stays_tup', stays_str', stays_dic', wipeE, List.foldr_cons, List.foldr_nil, setV, mkL, mkD, items, lineN, Nat.reduceLeDiff,  List.reduceReplicate, Nat.reduceAdd, Nat.reduceSub, slice, cut_to, l1, inD_strs, hin, l2]
          refine ⟨_, _, rfl, acc' ++ [u.take m], m + 1, some (.v (.int m)), rfl, by simp, rfl, ⟨by omega, ?_⟩, by simp; omega⟩
          rw [List.range_succ, List.foldl_append, a2]
          simp [stepK, hin]) (rngL 0 u.length) _ _ ⟨acc, 0, kv, rfl, rfl, rfl, ⟨by omega, rfl⟩, by omega⟩
    have hm2 : m = u.length := by
      by_cases e : m = u.length
      · exact e
      · rw [show u.length - m = (u.length - (m + 1)) + 1 by omega, rngL_cons] at hm; cases hm
    subst hm2
    have : acc' = stepF acc u := a1.2.symm
    subst this
    exact ⟨kv', e, a2⟩
  obtain ⟨σ', h', e, acc, rest, kv, kv', hx, rfl, rfl, a1, a2, a3⟩ := forGo_nx (tg := [2]) (st := fun _ => true) (b := evSs (cfN T n false h.length) Cm.forks_b2)
    (fun xs σ h' => ∃ (acc rest : List Cs) (kv kv' : Option Sl), xs = rest.map .str ∧ σ = [some (.v (.lst (t.paths.map .str))), some (.v (.lst (acc.map .str))), kv, kv'] ∧ h' = h ∧ rest.foldl stepF acc = t.fks ∧ acc.length + rest.length * 1000 ≤ 1000000 ∧ ∀ p ∈ rest, p.length < 1000)
    (fun _ _ _ _ => rfl) (by
      rintro x rs σ h' ⟨acc, rest, kv, kv', hx, rfl, rfl, a1, a2, a3⟩
      cases rest with
      | nil => cases hx
      | cons u rest =>
        cases hx
        refine ⟨_, rfl, ?_⟩
        have l0 := a3 u (by simp)
        simp only [List.length_cons] at a2
        obtain ⟨kv2, e2, l2⟩ := inner u acc kv' l0 (by omega)
        have r1 : inR (u.length : Int) = true := by unfold inR; exact decide_eq_true (by omega)
        have l1 : u.length ≤ 16777216 := by omega
        simp -implicitDefEqProofs -dsimp only [Cm.forks_b2, Out.andThen_nx, Out.andThen_rt, Out.andThen_ex, Out.andThen_st, R.bind_ok, R.bind_ex, R.bind_st, R.nox_ok, fromR_ok, fromR_ex, fromR_st, bnd_ok, bnd_ex, bnd_st, frm_ok, frm_ex, frm_st, thn_nx, thn_rt, thn_ex, thn_st, trO_ex, trO_nx, trO_rt, e_var, e_non, e_bl, e_int, e_str, e_glo, e_op1, e_op2, e_op3, e_cmp, e_cmp3, e_and, e_or, e_not, e_ite, e_tup, e_lst, e_dct0, e_set0, e_call, e_new, e_fld, e_lc, e_dc, e_isE, e_isV, e_atE, t_cmp, t_cmp3, t_and, t_or, t_not, t_ite, t_var, t_bl, t_op1, t_op2, t_call, t_fld, t_isE, t_isV, x_nil, x_cons, a_nil, a_ex, a_ec, r_e, r_rng1, r_rng2, s_expr, s_set, s_unp, s_seti, s_setf, s_ret, s_raise, s_ite, s_whl, s_for, s_tr, s_pass, ss_nil, ss_cons, getV, optV, List.getElem?_cons_zero, List.getElem?_cons_succ, List.set_cons_zero, List.set_cons_succ, startE, List.map_cons, List.map_nil, List.length_cons, List.length_nil, List.cons_append, List.nil_append, recv, sem1, sem2, optB, truthR, truth, seqL, isI, calm1, calm2, cfN_hot, cfN_m, cfN_call, cfN_glo, cfN_sub, cfN_sve, cfN_exn, Bool.false_and, Bool.true_and, Bool.and_true, Bool.and_false, Bool.or_true, Bool.true_or, Bool.or_false, Bool.false_or, Bool.not_true, Bool.not_false, if_true, if_false, Bool.false_eq_true, reduceIte, Option.map_some, Option.map_none, reduceCtorEq, ixD, atI_0, atI_1, atI_2, atI_3, atI_4, atI_5, atI_6, atI_7, atI_8, atI_9, atI_10, atI_11, atI_12, atI_nat', decide_true, decide_false, Bool.and_self, Option.isSome_some, Option.isSome_none, eqD_int, eqD_str, List.append_nil, stays_lst', stays_non', stays_tup', stays_str', stays_dic', wipeE, List.foldr_cons, List.foldr_nil, setV, mkL, mkD, items, lineN, Nat.reduceLeDiff,  List.reduceReplicate, Nat.reduceAdd, Nat.reduceSub, r1, l1, Int.toNat_natCast, e2]
        exact ⟨_, _, rfl, stepF acc u, rest, _, _, rfl, rfl, rfl, a1, by omega, fun p hp => a3 p (by simp [hp])⟩) (t.paths.map .str) _ _ ⟨[], t.paths, none, none, rfl, rfl, rfl, fks_all t, by have : t.paths.length ≤ 1000 := hs; simp; omega, fun p hp => Tr.small_len hs hp⟩
  have : rest = [] := by
    cases rest with
    | nil => rfl
    | cons u rest => cases hx
  subst this
  have : acc = t.fks := a1
  subst this
  rw [callF hf rfl rfl rfl]
  have e' : forGo [2] (fun _ => true) (evSs (cfN T n false h'.length) Cm.forks_b2) (t.paths.map .str) [some (.v (.lst (t.paths.map .str))), some (.v (.lst [])), none, none] h' = _ := e
  simp -implicitDefEqProofs -dsimp only [Cm.forks, Out.andThen_nx, Out.andThen_rt, Out.andThen_ex, Out.andThen_st, R.bind_ok, R.bind_ex, R.bind_st, R.nox_ok, fromR_ok, fromR_ex, fromR_st, bnd_ok, bnd_ex, bnd_st, frm_ok, frm_ex, frm_st, thn_nx, thn_rt, thn_ex, thn_st, trO_ex, trO_nx, trO_rt, e_var, e_non, e_bl, e_int, e_str, e_glo, e_op1, e_op2, e_op3, e_cmp, e_cmp3, e_and, e_or, e_not, e_ite, e_tup, e_lst, e_dct0, e_set0, e_call, e_new, e_fld, e_lc, e_dc, e_isE, e_isV, e_atE, t_cmp, t_cmp3, t_and, t_or, t_not, t_ite, t_var, t_bl, t_op1, t_op2, t_call, t_fld, t_isE, t_isV, x_nil, x_cons, a_nil, a_ex, a_ec, r_e, r_rng1, r_rng2, s_expr, s_set, s_unp, s_seti, s_setf, s_ret, s_raise, s_ite, s_whl, s_for, s_tr, s_pass, ss_nil, ss_cons, getV, optV, List.getElem?_cons_zero, List.getElem?_cons_succ, List.set_cons_zero, List.set_cons_succ, startE, List.map_cons, List.map_nil, List.length_cons, List.length_nil, List.cons_append, List.nil_append, recv, sem1, sem2, optB, truthR, truth, seqL, isI, calm1, calm2, cfN_hot, cfN_m, cfN_call, cfN_glo, cfN_sub, cfN_sve, cfN_exn, Bool.false_and, Bool.true_and, Bool.and_true, Bool.and_false, Bool.or_true, Bool.true_or, Bool.or_false, Bool.false_or, Bool.not_true, Bool.not_false, if_true, if_false, Bool.false_eq_true, reduceIte, Option.map_some, Option.map_none, reduceCtorEq, ixD, atI_0, atI_1, atI_2, atI_3, atI_4, atI_5, atI_6, atI_7, atI_8, atI_9, atI_10, atI_11, atI_12, atI_nat', decide_true, decide_false, Bool.and_self, Option.isSome_some, Option.isSome_none, eqD_int, eqD_str, List.append_nil, stays_lst', stays_non', stays_tup', stays_str', stays_dic', wipeE, List.foldr_cons, List.foldr_nil, setV, mkL, mkD, items, lineN, Nat.reduceLeDiff,  List.reduceReplicate, Nat.reduceAdd, Nat.reduceSub, e']
  exact exit_rt (by simp [nb, below, belows_all]) (List.take_of_length_le (Nat.le_refl _))
end Q
end FV

/-! The program's names and trees. -/
namespace FV
namespace Q
open PySem
namespace Cm
def is_name_b1 : Ex := (.cmp3 .le .le (.str [97]) (.var 1) (.str [122]))
def is_name (g_MOST_LETTERS : Nat) : Fn := ⟨1, 2, (.cons (.ite (.or (.not (.op1 (.isTy .str) (.var 0))) (.not (.cmp3 .le .le (.int 1) (.op1 .len (.var 0)) (.glo g_MOST_LETTERS)))) (.cons (.ret (.bl false)) (.nil)) (.nil)) (.cons (.ret (.op1 .all (.lc false [1] [1] (.e (.var 0)) (.bl true) (is_name_b1)))) (.nil))), false⟩
def is_tree_b1 (c_is_name : Nat) (g_MOST_WRITERS : Nat) : Sms := (.cons (.set 3 (.op1 .pop (.var 2))) (.cons (.ite (.and (.op1 (.isTy .tuple) (.var 3)) (.cmp .eq (.op1 .len (.var 3)) (.int 2))) (.cons (.expr (.op2 .append (.var 2) (.op2 .ix (.var 3) (.int 1)))) (.cons (.expr (.op2 .append (.var 2) (.op2 .ix (.var 3) (.int 0)))) (.nil))) (.cons (.ite (.or (.not (.call c_is_name (.ex (.var 3) (.nil)))) (.or (.cmp .inn (.var 3) (.var 1)) (.cmp .eq (.op1 .len (.var 1)) (.glo g_MOST_WRITERS)))) (.cons (.ret (.bl false)) (.nil)) (.cons (.expr (.op2 .sadd (.var 1) (.var 3))) (.nil))) (.nil))) (.nil)))
def is_tree (c_is_name : Nat) (g_MOST_WRITERS : Nat) : Fn := ⟨1, 4, (.cons (.set 1 (.set0 true)) (.cons (.set 2 (.lst true (.cons (.var 0) (.nil)))) (.cons (.whl (.var 2) (is_tree_b1 c_is_name g_MOST_WRITERS)) (.cons (.ret (.bl true)) (.nil))))), false⟩
def parts_of_b1 : Sms := (.cons (.unp [3, 4] (.op1 .pop (.var 2))) (.cons (.expr (.op2 .append (.var 1) (.tup (.cons (.var 3) (.cons (.var 4) (.nil)))))) (.cons (.ite (.not (.op1 (.isTy .str) (.var 4))) (.cons (.unp [5, 6] (.var 4)) (.cons (.expr (.op2 .append (.var 2) (.tup (.cons (.op2 .add (.var 3) (.str [49])) (.cons (.var 6) (.nil)))))) (.cons (.expr (.op2 .append (.var 2) (.tup (.cons (.op2 .add (.var 3) (.str [48])) (.cons (.var 5) (.nil)))))) (.nil)))) (.nil)) (.nil))))
def parts_of (c_is_tree : Nat) (x_InvalidTree : Nat) : Fn := ⟨1, 7, (.cons (.ite (.not (.call c_is_tree (.ex (.var 0) (.nil)))) (.cons (.raise x_InvalidTree (.cons (.str [110, 111, 116, 32, 97, 32, 116, 114, 101, 101]) (.nil))) (.nil)) (.nil)) (.cons (.set 1 (.lst true (.nil))) (.cons (.set 2 (.lst true (.cons (.tup (.cons (.str []) (.cons (.var 0) (.nil)))) (.nil)))) (.cons (.whl (.var 2) (parts_of_b1)) (.cons (.ret (.var 1)) (.nil)))))), false⟩
def leaf_names_b1 : Ex := (.op1 (.isTy .str) (.var 2))
def leaf_names_b2 : Ex := (.var 2)
def leaf_names (c_parts_of : Nat) : Fn := ⟨1, 3, (.cons (.ret (.lc false [1, 2] [1, 2] (.e (.call c_parts_of (.ex (.var 0) (.nil)))) (leaf_names_b1) (leaf_names_b2))) (.nil)), false⟩
def ways_of_b1 : Ex := (.op1 (.isTy .str) (.var 2))
def ways_of_b2 : Ex := (.var 2)
def ways_of_b3 : Ex := (.var 1)
def ways_of (c_parts_of : Nat) : Fn := ⟨1, 3, (.cons (.ret (.dc false [1, 2] [1, 2] (.e (.call c_parts_of (.ex (.var 0) (.nil)))) (ways_of_b1) (ways_of_b2) (ways_of_b3))) (.nil)), false⟩
def way_of (c_ways_of : Nat) (x_UnknownWriter : Nat) : Fn := ⟨2, 3, (.cons (.set 2 (.call c_ways_of (.ex (.var 0) (.nil)))) (.cons (.ite (.cmp .notin (.var 1) (.op1 (.list false) (.var 2))) (.cons (.raise x_UnknownWriter (.cons (.var 1) (.nil))) (.nil)) (.nil)) (.cons (.ret (.op2 .ix (.var 2) (.var 1))) (.nil)))), false⟩
def forks_of_b1 : Ex := (.not (.op1 (.isTy .str) (.var 2)))
def forks_of_b2 : Ex := (.var 1)
def forks_of (c_parts_of : Nat) : Fn := ⟨1, 3, (.cons (.ret (.lc false [1, 2] [1, 2] (.e (.call c_parts_of (.ex (.var 0) (.nil)))) (forks_of_b1) (forks_of_b2))) (.nil)), false⟩
def check_fork (c_forks_of : Nat) (x_UnknownFork : Nat) : Fn := ⟨2, 2, (.cons (.ite (.cmp .notin (.var 1) (.call c_forks_of (.ex (.var 0) (.nil)))) (.cons (.raise x_UnknownFork (.cons (.var 1) (.nil))) (.nil)) (.nil)) (.nil)), false⟩
def height_of_b1 : Ex := (.op1 .len (.var 1))
def height_of (c_parts_of : Nat) : Fn := ⟨1, 3, (.cons (.ret (.op1 .max1 (.lc false [1, 2] [1, 2] (.e (.call c_parts_of (.ex (.var 0) (.nil)))) (.bl true) (height_of_b1)))) (.nil)), false⟩
def names_beneath_b1 : Ex := (.op2 .starts (.op2 .ix (.var 4) (.var 5)) (.var 3))
def names_beneath_b2 : Ex := (.var 5)
def names_beneath (c_check_fork : Nat) (c_ways_of : Nat) : Fn := ⟨3, 6, (.cons (.expr (.call c_check_fork (.ex (.var 0) (.ex (.var 1) (.nil))))) (.cons (.set 3 (.op2 .add (.var 1) (.op1 .strI (.var 2)))) (.cons (.set 4 (.call c_ways_of (.ex (.var 0) (.nil)))) (.cons (.ret (.lc false [5] [5] (.e (.var 4)) (names_beneath_b1) (names_beneath_b2))) (.nil))))), false⟩
end Cm

def isNmC (x : Cs) : Bool := decide (1 ≤ x.length) && (decide (x.length ≤ 8) && x.all fun c => decide (97 ≤ c) && decide (c ≤ 122))
def isNm : D → Bool
  | .str x => isNmC x
  | _ => false
theorem isNmC_iff {x : Cs} : isNmC x = true ↔ isNameC x := by
  simp [isNmC, isNameC, List.all_eq_true]
/-- what the type tests tell of -/
def tidy : D → Bool
  | .non | .bl _ | .int _ | .tup _ | .lst _ | .dic _ _ => true
  | .str x => decide (x.length ≤ 16777216)
  | _ => false

theorem boolsD_map (l : List Bool) : boolsD (l.map .bl) = some l := by
  induction l with
  | nil => rfl
  | cons b l ih => simp [boolsD, ih]

theorem isName_ok {T : Tb} {f g : Nat} (hf : T.fn f = some (Cm.is_name g)) (hg : T.glo g = some (.int 8)) {n mc : Nat} {h : Hb} {d : D} (hn : 1 ≤ n) (ht : tidy d = true) :
    callN T n false mc f [.v d] h = .ok (.bl (isNm d)) h := by
  obtain ⟨n, rfl⟩ : ∃ k, n = k + 1 := ⟨n - 1, by omega⟩
  rw [callF hf rfl rfl rfl]
  have fin : ∀ b : Bool, exitF false h.length (.rt (.bl b) h) = .ok (.bl b) h := fun b => exit_rt rfl (List.take_of_length_le (Nat.le_refl _))
  cases d with
  | non => simp -implicitDefEqProofs -dsimp only [Cm.is_name, Out.andThen_nx, Out.andThen_rt, Out.andThen_ex, Out.andThen_st, R.bind_ok, R.bind_ex, R.bind_st, R.nox_ok, fromR_ok, fromR_ex, fromR_st, bnd_ok, bnd_ex, bnd_st, frm_ok, frm_ex, frm_st, thn_nx, thn_rt, thn_ex, thn_st, trO_ex, trO_nx, trO_rt, e_var, e_non, e_bl, e_int, e_str, e_glo, e_op1, e_op2, e_op3, e_cmp, e_cmp3, e_and, e_or, e_not, e_ite, e_tup, e_lst, e_dct0, e_set0, e_call, e_new, e_fld, e_lc, e_dc, e_isE, e_isV, e_atE, t_cmp, t_cmp3, t_and, t_or, t_not, t_ite, t_var, t_bl, t_op1, t_op2, t_call, t_fld, t_isE, t_isV, x_nil, x_cons, a_nil, a_ex, a_ec, r_e, r_rng1, r_rng2, s_expr, s_set, s_unp, s_seti, s_setf, s_ret, s_raise, s_ite, s_whl, s_for, s_tr, s_pass, ss_nil, ss_cons, getV, optV, List.getElem?_cons_zero, List.getElem?_cons_succ, List.set_cons_zero, List.set_cons_succ, startE, List.map_cons, List.map_nil, List.length_cons, List.length_nil, List.cons_append, List.nil_append, recv, sem1, sem2, optB, truthR, truth, seqL, isI, calm1, calm2, cfN_hot, cfN_m, cfN_call, cfN_glo, cfN_sub, cfN_sve, cfN_exn, Bool.false_and, Bool.true_and, Bool.and_true, Bool.and_false, Bool.or_true, Bool.true_or, Bool.or_false, Bool.false_or, Bool.not_true, Bool.not_false, if_true, if_false, Bool.false_eq_true, reduceIte, Option.map_some, Option.map_none, reduceCtorEq, ixD, atI_0, atI_1, atI_2, atI_3, atI_4, atI_5, atI_6, atI_7, atI_8, atI_9, atI_10, atI_11, atI_12, atI_nat', decide_true, decide_false, Bool.and_self, Option.isSome_some, Option.isSome_none, eqD_int, eqD_str, List.append_nil, stays_lst', stays_non', stays_tup', stays_str', stays_dic', wipeE, List.foldr_cons, List.foldr_nil, setV, mkL, mkD, items, lineN, Nat.reduceLeDiff,  List.reduceReplicate, Nat.reduceAdd, Nat.reduceSub, isTyV, tyOf, fin]; rfl
  | bl b => simp -implicitDefEqProofs -dsimp only [Cm.is_name, Out.andThen_nx, Out.andThen_rt, Out.andThen_ex, Out.andThen_st, R.bind_ok, R.bind_ex, R.bind_st, R.nox_ok, fromR_ok, fromR_ex, fromR_st, bnd_ok, bnd_ex, bnd_st, frm_ok, frm_ex, frm_st, thn_nx, thn_rt, thn_ex, thn_st, trO_ex, trO_nx, trO_rt, e_var, e_non, e_bl, e_int, e_str, e_glo, e_op1, e_op2, e_op3, e_cmp, e_cmp3, e_and, e_or, e_not, e_ite, e_tup, e_lst, e_dct0, e_set0, e_call, e_new, e_fld, e_lc, e_dc, e_isE, e_isV, e_atE, t_cmp, t_cmp3, t_and, t_or, t_not, t_ite, t_var, t_bl, t_op1, t_op2, t_call, t_fld, t_isE, t_isV, x_nil, x_cons, a_nil, a_ex, a_ec, r_e, r_rng1, r_rng2, s_expr, s_set, s_unp, s_seti, s_setf, s_ret, s_raise, s_ite, s_whl, s_for, s_tr, s_pass, ss_nil, ss_cons, getV, optV, List.getElem?_cons_zero, List.getElem?_cons_succ, List.set_cons_zero, List.set_cons_succ, startE, List.map_cons, List.map_nil, List.length_cons, List.length_nil, List.cons_append, List.nil_append, recv, sem1, sem2, optB, truthR, truth, seqL, isI, calm1, calm2, cfN_hot, cfN_m, cfN_call, cfN_glo, cfN_sub, cfN_sve, cfN_exn, Bool.false_and, Bool.true_and, Bool.and_true, Bool.and_false, Bool.or_true, Bool.true_or, Bool.or_false, Bool.false_or, Bool.not_true, Bool.not_false, if_true, if_false, Bool.false_eq_true, reduceIte, Option.map_some, Option.map_none, reduceCtorEq, ixD, atI_0, atI_1, atI_2, atI_3, atI_4, atI_5, atI_6, atI_7, atI_8, atI_9, atI_10, atI_11, atI_12, atI_nat', decide_true, decide_false, Bool.and_self, Option.isSome_some, Option.isSome_none, eqD_int, eqD_str, List.append_nil, stays_lst', stays_non', stays_tup', stays_str', stays_dic', wipeE, List.foldr_cons, List.foldr_nil, setV, mkL, mkD, items, lineN, Nat.reduceLeDiff,  List.reduceReplicate, Nat.reduceAdd, Nat.reduceSub, isTyV, tyOf, fin, show decide (Ty.bool = Ty.str) = false from rfl, show decide (Ty.str = Ty.int) = false from rfl, show decide (Ty.bool = Ty.bool) = true from rfl]; rfl
  | int i => simp -implicitDefEqProofs -dsimp only [Cm.is_name, Out.andThen_nx, Out.andThen_rt, Out.andThen_ex, Out.andThen_st, R.bind_ok, R.bind_ex, R.bind_st, R.nox_ok, fromR_ok, fromR_ex, fromR_st, bnd_ok, bnd_ex, bnd_st, frm_ok, frm_ex, frm_st, thn_nx, thn_rt, thn_ex, thn_st, trO_ex, trO_nx, trO_rt, e_var, e_non, e_bl, e_int, e_str, e_glo, e_op1, e_op2, e_op3, e_cmp, e_cmp3, e_and, e_or, e_not, e_ite, e_tup, e_lst, e_dct0, e_set0, e_call, e_new, e_fld, e_lc, e_dc, e_isE, e_isV, e_atE, t_cmp, t_cmp3, t_and, t_or, t_not, t_ite, t_var, t_bl, t_op1, t_op2, t_call, t_fld, t_isE, t_isV, x_nil, x_cons, a_nil, a_ex, a_ec, r_e, r_rng1, r_rng2, s_expr, s_set, s_unp, s_seti, s_setf, s_ret, s_raise, s_ite, s_whl, s_for, s_tr, s_pass, ss_nil, ss_cons, getV, optV, List.getElem?_cons_zero, List.getElem?_cons_succ, List.set_cons_zero, List.set_cons_succ, startE, List.map_cons, List.map_nil, List.length_cons, List.length_nil, List.cons_append, List.nil_append, recv, sem1, sem2, optB, truthR, truth, seqL, isI, calm1, calm2, cfN_hot, cfN_m, cfN_call, cfN_glo, cfN_sub, cfN_sve, cfN_exn, Bool.false_and, Bool.true_and, Bool.and_true, Bool.and_false, Bool.or_true, Bool.true_or, Bool.or_false, Bool.false_or, Bool.not_true, Bool.not_false, if_true, if_false, Bool.false_eq_true, reduceIte, Option.map_some, Option.map_none, reduceCtorEq, ixD, atI_0, atI_1, atI_2, atI_3, atI_4, atI_5, atI_6, atI_7, atI_8, atI_9, atI_10, atI_11, atI_12, atI_nat', decide_true, decide_false, Bool.and_self, Option.isSome_some, Option.isSome_none, eqD_int, eqD_str, List.append_nil, stays_lst', stays_non', stays_tup', stays_str', stays_dic', wipeE, List.foldr_cons, List.foldr_nil, setV, mkL, mkD, items, lineN, Nat.reduceLeDiff,  List.reduceReplicate, Nat.reduceAdd, Nat.reduceSub, isTyV, tyOf, fin, show decide (Ty.int = Ty.str) = false from rfl, show decide (Ty.int = Ty.bool) = false from rfl]; rfl
  | tup xs => simp -implicitDefEqProofs -dsimp only [Cm.is_name, Out.andThen_nx, Out.andThen_rt, Out.andThen_ex, Out.andThen_st, R.bind_ok, R.bind_ex, R.bind_st, R.nox_ok, fromR_ok, fromR_ex, fromR_st, bnd_ok, bnd_ex, bnd_st, frm_ok, frm_ex, frm_st, thn_nx, thn_rt, thn_ex, thn_st, trO_ex, trO_nx, trO_rt, e_var, e_non, e_bl, e_int, e_str, e_glo, e_op1, e_op2, e_op3, e_cmp, e_cmp3, e_and, e_or, e_not, e_ite, e_tup, e_lst, e_dct0, e_set0, e_call, e_new, e_fld, e_lc, e_dc, e_isE, e_isV, e_atE, t_cmp, t_cmp3, t_and, t_or, t_not, t_ite, t_var, t_bl, t_op1, t_op2, t_call, t_fld, t_isE, t_isV, x_nil, x_cons, a_nil, a_ex, a_ec, r_e, r_rng1, r_rng2, s_expr, s_set, s_unp, s_seti, s_setf, s_ret, s_raise, s_ite, s_whl, s_for, s_tr, s_pass, ss_nil, ss_cons, getV, optV, List.getElem?_cons_zero, List.getElem?_cons_succ, List.set_cons_zero, List.set_cons_succ, startE, List.map_cons, List.map_nil, List.length_cons, List.length_nil, List.cons_append, List.nil_append, recv, sem1, sem2, optB, truthR, truth, seqL, isI, calm1, calm2, cfN_hot, cfN_m, cfN_call, cfN_glo, cfN_sub, cfN_sve, cfN_exn, Bool.false_and, Bool.true_and, Bool.and_true, Bool.and_false, Bool.or_true, Bool.true_or, Bool.or_false, Bool.false_or, Bool.not_true, Bool.not_false, if_true, if_false, Bool.false_eq_true, reduceIte, Option.map_some, Option.map_none, reduceCtorEq, ixD, atI_0, atI_1, atI_2, atI_3, atI_4, atI_5, atI_6, atI_7, atI_8, atI_9, atI_10, atI_11, atI_12, atI_nat', decide_true, decide_false, Bool.and_self, Option.isSome_some, Option.isSome_none, eqD_int, eqD_str, List.append_nil, stays_lst', stays_non', stays_tup', stays_str', stays_dic', wipeE, List.foldr_cons, List.foldr_nil, setV, mkL, mkD, items, lineN, Nat.reduceLeDiff,  List.reduceReplicate, Nat.reduceAdd, Nat.reduceSub, isTyV, tyOf, fin, show decide (Ty.tuple = Ty.str) = false from rfl, show decide (Ty.tuple = Ty.bool) = false from rfl]; rfl
  | lst xs => simp -implicitDefEqProofs -dsimp only [Cm.is_name, Out.andThen_nx, Out.andThen_rt, Out.andThen_ex, Out.andThen_st, R.bind_ok, R.bind_ex, R.bind_st, R.nox_ok, fromR_ok, fromR_ex, fromR_st, bnd_ok, bnd_ex, bnd_st, frm_ok, frm_ex, frm_st, thn_nx, thn_rt, thn_ex, thn_st, trO_ex, trO_nx, trO_rt, e_var, e_non, e_bl, e_int, e_str, e_glo, e_op1, e_op2, e_op3, e_cmp, e_cmp3, e_and, e_or, e_not, e_ite, e_tup, e_lst, e_dct0, e_set0, e_call, e_new, e_fld, e_lc, e_dc, e_isE, e_isV, e_atE, t_cmp, t_cmp3, t_and, t_or, t_not, t_ite, t_var, t_bl, t_op1, t_op2, t_call, t_fld, t_isE, t_isV, x_nil, x_cons, a_nil, a_ex, a_ec, r_e, r_rng1, r_rng2, s_expr, s_set, s_unp, s_seti, s_setf, s_ret, s_raise, s_ite, s_whl, s_for, s_tr, s_pass, ss_nil, ss_cons, getV, optV, List.getElem?_cons_zero, List.getElem?_cons_succ, List.set_cons_zero, List.set_cons_succ, startE, List.map_cons, List.map_nil, List.length_cons, List.length_nil, List.cons_append, List.nil_append, recv, sem1, sem2, optB, truthR, truth, seqL, isI, calm1, calm2, cfN_hot, cfN_m, cfN_call, cfN_glo, cfN_sub, cfN_sve, cfN_exn, Bool.false_and, Bool.true_and, Bool.and_true, Bool.and_false, Bool.or_true, Bool.true_or, Bool.or_false, Bool.false_or, Bool.not_true, Bool.not_false, if_true, if_false, Bool.false_eq_true, reduceIte, Option.map_some, Option.map_none, reduceCtorEq, ixD, atI_0, atI_1, atI_2, atI_3, atI_4, atI_5, atI_6, atI_7, atI_8, atI_9, atI_10, atI_11, atI_12, atI_nat', decide_true, decide_false, Bool.and_self, Option.isSome_some, Option.isSome_none, eqD_int, eqD_str, List.append_nil, stays_lst', stays_non', stays_tup', stays_str', stays_dic', wipeE, List.foldr_cons, List.foldr_nil, setV, mkL, mkD, items, lineN, Nat.reduceLeDiff,  List.reduceReplicate, Nat.reduceAdd, Nat.reduceSub, isTyV, tyOf, fin, show decide (Ty.list = Ty.str) = false from rfl, show decide (Ty.list = Ty.bool) = false from rfl]; rfl
  | dic ks vs => simp -implicitDefEqProofs -dsimp only [Cm.is_name, Out.andThen_nx, Out.andThen_rt, Out.andThen_ex, Out.andThen_st, R.bind_ok, R.bind_ex, R.bind_st, R.nox_ok, fromR_ok, fromR_ex, fromR_st, bnd_ok, bnd_ex, bnd_st, frm_ok, frm_ex, frm_st, thn_nx, thn_rt, thn_ex, thn_st, trO_ex, trO_nx, trO_rt, e_var, e_non, e_bl, e_int, e_str, e_glo, e_op1, e_op2, e_op3, e_cmp, e_cmp3, e_and, e_or, e_not, e_ite, e_tup, e_lst, e_dct0, e_set0, e_call, e_new, e_fld, e_lc, e_dc, e_isE, e_isV, e_atE, t_cmp, t_cmp3, t_and, t_or, t_not, t_ite, t_var, t_bl, t_op1, t_op2, t_call, t_fld, t_isE, t_isV, x_nil, x_cons, a_nil, a_ex, a_ec, r_e, r_rng1, r_rng2, s_expr, s_set, s_unp, s_seti, s_setf, s_ret, s_raise, s_ite, s_whl, s_for, s_tr, s_pass, ss_nil, ss_cons, getV, optV, List.getElem?_cons_zero, List.getElem?_cons_succ, List.set_cons_zero, List.set_cons_succ, startE, List.map_cons, List.map_nil, List.length_cons, List.length_nil, List.cons_append, List.nil_append, recv, sem1, sem2, optB, truthR, truth, seqL, isI, calm1, calm2, cfN_hot, cfN_m, cfN_call, cfN_glo, cfN_sub, cfN_sve, cfN_exn, Bool.false_and, Bool.true_and, Bool.and_true, Bool.and_false, Bool.or_true, Bool.true_or, Bool.or_false, Bool.false_or, Bool.not_true, Bool.not_false, if_true, if_false, Bool.false_eq_true, reduceIte, Option.map_some, Option.map_none, reduceCtorEq, ixD, atI_0, atI_1, atI_2, atI_3, atI_4, atI_5, atI_6, atI_7, atI_8, atI_9, atI_10, atI_11, atI_12, atI_nat', decide_true, decide_false, Bool.and_self, Option.isSome_some, Option.isSome_none, eqD_int, eqD_str, List.append_nil, stays_lst', stays_non', stays_tup', stays_str', stays_dic', wipeE, List.foldr_cons, List.foldr_nil, setV, mkL, mkD, items, lineN, Nat.reduceLeDiff,  List.reduceReplicate, Nat.reduceAdd, Nat.reduceSub, isTyV, tyOf, fin, show decide (Ty.dict = Ty.str) = false from rfl, show decide (Ty.dict = Ty.bool) = false from rfl]; rfl
  | str x =>
    have hx : x.length ≤ 16777216 := of_decide_eq_true ht
    have z1 : ∀ σ : Env, σ = [some (.v (.str x)), none] → lcGo [1] σ (fun _ => true) (evT (cfN T n false h.length) (.bl true)) (evE (cfN T n false h.length) Cm.is_name_b1) (x.map fun c => D.str [c]) [] h = .ok ((x.map fun c => decide (97 ≤ c) && decide (c ≤ 122)).map .bl) h := by
      rintro σ rfl
      have e : (x.map fun c => D.str [c]) = (x.map fun c => [c]).map .str := by simp
      rw [e, lc_strs (fun _ => true) (fun w => .bl (w.all fun c => decide (97 ≤ c) && decide (c ≤ 122))) (by simpa [lineN] using hx) (by
        intro k hk
        obtain ⟨c, _, rfl⟩ := List.mem_map.1 hk
        refine ⟨t_bl, fun _ => ?_⟩
        have c1 : (([c] : Cs) < [97]) = (c < 97) := propext (by rw [List.cons_lt_cons_iff]; simp)
        have c2 : (([122] : Cs) < [c]) = (122 < c) := propext (by rw [List.cons_lt_cons_iff]; simp)
        by_cases a : 97 ≤ c
        · have a1 : (c < 97) = False := by simp; omega
          simp -implicitDefEqProofs -dsimp only [Cm.is_name_b1, Out.andThen_nx, Out.andThen_rt, Out.andThen_ex, Out.andThen_st, R.bind_ok, R.bind_ex, R.bind_st, R.nox_ok, fromR_ok, fromR_ex, fromR_st, bnd_ok, bnd_ex, bnd_st, frm_ok, frm_ex, frm_st, thn_nx, thn_rt, thn_ex, thn_st, trO_ex, trO_nx, trO_rt, e_var, e_non, e_bl, e_int, e_str, e_glo, e_op1, e_op2, e_op3, e_cmp, e_cmp3, e_and, e_or, e_not, e_ite, e_tup, e_lst, e_dct0, e_set0, e_call, e_new, e_fld, e_lc, e_dc, e_isE, e_isV, e_atE, t_cmp, t_cmp3, t_and, t_or, t_not, t_ite, t_var, t_bl, t_op1, t_op2, t_call, t_fld, t_isE, t_isV, x_nil, x_cons, a_nil, a_ex, a_ec, r_e, r_rng1, r_rng2, s_expr, s_set, s_unp, s_seti, s_setf, s_ret, s_raise, s_ite, s_whl, s_for, s_tr, s_pass, ss_nil, ss_cons, getV, optV, List.getElem?_cons_zero, List.getElem?_cons_succ, List.set_cons_zero, List.set_cons_succ, startE, List.map_cons, List.map_nil, List.length_cons, List.length_nil, List.cons_append, List.nil_append, recv, sem1, sem2, optB, truthR, truth, seqL, isI, calm1, calm2, cfN_hot, cfN_m, cfN_call, cfN_glo, cfN_sub, cfN_sve, cfN_exn, Bool.false_and, Bool.true_and, Bool.and_true, Bool.and_false, Bool.or_true, Bool.true_or, Bool.or_false, Bool.false_or, Bool.not_true, Bool.not_false, if_true, if_false, Bool.false_eq_true, reduceIte, Option.map_some, Option.map_none, reduceCtorEq, ixD, atI_0, atI_1, atI_2, atI_3, atI_4, atI_5, atI_6, atI_7, atI_8, atI_9, atI_10, atI_11, atI_12, atI_nat', decide_true, decide_false, Bool.and_self, Option.isSome_some, Option.isSome_none, eqD_int, eqD_str, List.append_nil, stays_lst', stays_non', stays_tup', stays_str', stays_dic', wipeE, List.foldr_cons, List.foldr_nil, setV, mkL, mkD, items, lineN, Nat.reduceLeDiff,  List.reduceReplicate, Nat.reduceAdd, Nat.reduceSub, cmpI, c1, a1, c2]
          by_cases b : c ≤ 122
          · have b1 : (122 < c) = False := by simp; omega
            simp [b1, a, b]
          · have b1 : (122 < c) = True := by simp; omega
            simp [b1, a, b]
        · have a1 : (c < 97) = True := by simp; omega
          simp -implicitDefEqProofs -dsimp only [Cm.is_name_b1, Out.andThen_nx, Out.andThen_rt, Out.andThen_ex, Out.andThen_st, R.bind_ok, R.bind_ex, R.bind_st, R.nox_ok, fromR_ok, fromR_ex, fromR_st, bnd_ok, bnd_ex, bnd_st, frm_ok, frm_ex, frm_st, thn_nx, thn_rt, thn_ex, thn_st, trO_ex, trO_nx, trO_rt, e_var, e_non, e_bl, e_int, e_str, e_glo, e_op1, e_op2, e_op3, e_cmp, e_cmp3, e_and, e_or, e_not, e_ite, e_tup, e_lst, e_dct0, e_set0, e_call, e_new, e_fld, e_lc, e_dc, e_isE, e_isV, e_atE, t_cmp, t_cmp3, t_and, t_or, t_not, t_ite, t_var, t_bl, t_op1, t_op2, t_call, t_fld, t_isE, t_isV, x_nil, x_cons, a_nil, a_ex, a_ec, r_e, r_rng1, r_rng2, s_expr, s_set, s_unp, s_seti, s_setf, s_ret, s_raise, s_ite, s_whl, s_for, s_tr, s_pass, ss_nil, ss_cons, getV, optV, List.getElem?_cons_zero, List.getElem?_cons_succ, List.set_cons_zero, List.set_cons_succ, startE, List.map_cons, List.map_nil, List.length_cons, List.length_nil, List.cons_append, List.nil_append, recv, sem1, sem2, optB, truthR, truth, seqL, isI, calm1, calm2, cfN_hot, cfN_m, cfN_call, cfN_glo, cfN_sub, cfN_sve, cfN_exn, Bool.false_and, Bool.true_and, Bool.and_true, Bool.and_false, Bool.or_true, Bool.true_or, Bool.or_false, Bool.false_or, Bool.not_true, Bool.not_false, if_true, if_false, Bool.false_eq_true, reduceIte, Option.map_some, Option.map_none, reduceCtorEq, ixD, atI_0, atI_1, atI_2, atI_3, atI_4, atI_5, atI_6, atI_7, atI_8, atI_9, atI_10, atI_11, atI_12, atI_nat', decide_true, decide_false, Bool.and_self, Option.isSome_some, Option.isSome_none, eqD_int, eqD_str, List.append_nil, stays_lst', stays_non', stays_tup', stays_str', stays_dic', wipeE, List.foldr_cons, List.foldr_nil, setV, mkL, mkD, items, lineN, Nat.reduceLeDiff,  List.reduceReplicate, Nat.reduceAdd, Nat.reduceSub, cmpI, c1, a1]
          simp [a])]
      rw [List.filter_eq_self.2 (fun _ _ => rfl), List.map_map, List.map_map]
      exact congrArg (fun l => R.ok l h) (List.map_congr_left fun c _ => by simp)
    have z2 : (boolsD ((x.map fun c => decide (97 ≤ c) && decide (c ≤ 122)).map .bl)) = some (x.map fun c => decide (97 ≤ c) && decide (c ≤ 122)) := boolsD_map _
    by_cases l1 : 1 ≤ x.length
    · have l1' : ((x.length : Int) < 1) = False := by simp; omega
      by_cases l2 : x.length ≤ 8
      · have l2' : ((8 : Int) < (x.length : Int)) = False := by simp; omega
        simp -implicitDefEqProofs -dsimp only [Cm.is_name, Out.andThen_nx, Out.andThen_rt, Out.andThen_ex, Out.andThen_st, R.bind_ok, R.bind_ex, R.bind_st, R.nox_ok, fromR_ok, fromR_ex, fromR_st, bnd_ok, bnd_ex, bnd_st, frm_ok, frm_ex, frm_st, thn_nx, thn_rt, thn_ex, thn_st, trO_ex, trO_nx, trO_rt, e_var, e_non, e_bl, e_int, e_str, e_glo, e_op1, e_op2, e_op3, e_cmp, e_cmp3, e_and, e_or, e_not, e_ite, e_tup, e_lst, e_dct0, e_set0, e_call, e_new, e_fld, e_lc, e_dc, e_isE, e_isV, e_atE, t_cmp, t_cmp3, t_and, t_or, t_not, t_ite, t_var, t_bl, t_op1, t_op2, t_call, t_fld, t_isE, t_isV, x_nil, x_cons, a_nil, a_ex, a_ec, r_e, r_rng1, r_rng2, s_expr, s_set, s_unp, s_seti, s_setf, s_ret, s_raise, s_ite, s_whl, s_for, s_tr, s_pass, ss_nil, ss_cons, getV, optV, List.getElem?_cons_zero, List.getElem?_cons_succ, List.set_cons_zero, List.set_cons_succ, startE, List.map_cons, List.map_nil, List.length_cons, List.length_nil, List.cons_append, List.nil_append, recv, sem1, sem2, optB, truthR, truth, seqL, isI, calm1, calm2, cfN_hot, cfN_m, cfN_call, cfN_glo, cfN_sub, cfN_sve, cfN_exn, Bool.false_and, Bool.true_and, Bool.and_true, Bool.and_false, Bool.or_true, Bool.true_or, Bool.or_false, Bool.false_or, Bool.not_true, Bool.not_false, if_true, if_false, Bool.false_eq_true, reduceIte, Option.map_some, Option.map_none, reduceCtorEq, ixD, atI_0, atI_1, atI_2, atI_3, atI_4, atI_5, atI_6, atI_7, atI_8, atI_9, atI_10, atI_11, atI_12, atI_nat', decide_true, decide_false, Bool.and_self, Option.isSome_some, Option.isSome_none, eqD_int, eqD_str, List.append_nil, stays_lst', stays_non', stays_tup', stays_str', stays_dic', wipeE, List.foldr_cons, List.foldr_nil, setV, mkL, mkD, items, lineN, Nat.reduceLeDiff,  List.reduceReplicate, Nat.reduceAdd, Nat.reduceSub, isTyV, tyOf, fin, show decide (Ty.str = Ty.str) = true from rfl, hx, cmpI, hg, show ((1 : Int) ≤ (x.length : Int)) = True by simp; omega, show ((x.length : Int) ≤ 8) = True by simp; omega, z1 _ rfl, z2, Option.bind_some]
        simp [isNm, isNmC, l1, l2, Function.comp, List.all_map]
      · simp -implicitDefEqProofs -dsimp only [Cm.is_name, Out.andThen_nx, Out.andThen_rt, Out.andThen_ex, Out.andThen_st, R.bind_ok, R.bind_ex, R.bind_st, R.nox_ok, fromR_ok, fromR_ex, fromR_st, bnd_ok, bnd_ex, bnd_st, frm_ok, frm_ex, frm_st, thn_nx, thn_rt, thn_ex, thn_st, trO_ex, trO_nx, trO_rt, e_var, e_non, e_bl, e_int, e_str, e_glo, e_op1, e_op2, e_op3, e_cmp, e_cmp3, e_and, e_or, e_not, e_ite, e_tup, e_lst, e_dct0, e_set0, e_call, e_new, e_fld, e_lc, e_dc, e_isE, e_isV, e_atE, t_cmp, t_cmp3, t_and, t_or, t_not, t_ite, t_var, t_bl, t_op1, t_op2, t_call, t_fld, t_isE, t_isV, x_nil, x_cons, a_nil, a_ex, a_ec, r_e, r_rng1, r_rng2, s_expr, s_set, s_unp, s_seti, s_setf, s_ret, s_raise, s_ite, s_whl, s_for, s_tr, s_pass, ss_nil, ss_cons, getV, optV, List.getElem?_cons_zero, List.getElem?_cons_succ, List.set_cons_zero, List.set_cons_succ, startE, List.map_cons, List.map_nil, List.length_cons, List.length_nil, List.cons_append, List.nil_append, recv, sem1, sem2, optB, truthR, truth, seqL, isI, calm1, calm2, cfN_hot, cfN_m, cfN_call, cfN_glo, cfN_sub, cfN_sve, cfN_exn, Bool.false_and, Bool.true_and, Bool.and_true, Bool.and_false, Bool.or_true, Bool.true_or, Bool.or_false, Bool.false_or, Bool.not_true, Bool.not_false, if_true, if_false, Bool.false_eq_true, reduceIte, Option.map_some, Option.map_none, reduceCtorEq, ixD, atI_0, atI_1, atI_2, atI_3, atI_4, atI_5, atI_6, atI_7, atI_8, atI_9, atI_10, atI_11, atI_12, atI_nat', decide_true, decide_false, Bool.and_self, Option.isSome_some, Option.isSome_none, eqD_int, eqD_str, List.append_nil, stays_lst', stays_non', stays_tup', stays_str', stays_dic', wipeE, List.foldr_cons, List.foldr_nil, setV, mkL, mkD, items, lineN, Nat.reduceLeDiff,  List.reduceReplicate, Nat.reduceAdd, Nat.reduceSub, isTyV, tyOf, fin, show decide (Ty.str = Ty.str) = true from rfl, hx, cmpI, hg, show ((1 : Int) ≤ (x.length : Int)) = True by simp; omega, show ((x.length : Int) ≤ 8) = False by simp; omega]
        simp [isNm, isNmC, l2]
    · simp -implicitDefEqProofs -dsimp only [Cm.is_name, Out.andThen_nx, Out.andThen_rt, Out.andThen_ex, Out.andThen_st, R.bind_ok, R.bind_ex, R.bind_st, R.nox_ok, fromR_ok, fromR_ex, fromR_st, bnd_ok, bnd_ex, bnd_st, frm_ok, frm_ex, frm_st, thn_nx, thn_rt, thn_ex, thn_st, trO_ex, trO_nx, trO_rt, e_var, e_non, e_bl, e_int, e_str, e_glo, e_op1, e_op2, e_op3, e_cmp, e_cmp3, e_and, e_or, e_not, e_ite, e_tup, e_lst, e_dct0, e_set0, e_call, e_new, e_fld, e_lc, e_dc, e_isE, e_isV, e_atE, t_cmp, t_cmp3, t_and, t_or, t_not, t_ite, t_var, t_bl, t_op1, t_op2, t_call, t_fld, t_isE, t_isV, x_nil, x_cons, a_nil, a_ex, a_ec, r_e, r_rng1, r_rng2, s_expr, s_set, s_unp, s_seti, s_setf, s_ret, s_raise, s_ite, s_whl, s_for, s_tr, s_pass, ss_nil, ss_cons, getV, optV, List.getElem?_cons_zero, List.getElem?_cons_succ, List.set_cons_zero, List.set_cons_succ, startE, List.map_cons, List.map_nil, List.length_cons, List.length_nil, List.cons_append, List.nil_append, recv, sem1, sem2, optB, truthR, truth, seqL, isI, calm1, calm2, cfN_hot, cfN_m, cfN_call, cfN_glo, cfN_sub, cfN_sve, cfN_exn, Bool.false_and, Bool.true_and, Bool.and_true, Bool.and_false, Bool.or_true, Bool.true_or, Bool.or_false, Bool.false_or, Bool.not_true, Bool.not_false, if_true, if_false, Bool.false_eq_true, reduceIte, Option.map_some, Option.map_none, reduceCtorEq, ixD, atI_0, atI_1, atI_2, atI_3, atI_4, atI_5, atI_6, atI_7, atI_8, atI_9, atI_10, atI_11, atI_12, atI_nat', decide_true, decide_false, Bool.and_self, Option.isSome_some, Option.isSome_none, eqD_int, eqD_str, List.append_nil, stays_lst', stays_non', stays_tup', stays_str', stays_dic', wipeE, List.foldr_cons, List.foldr_nil, setV, mkL, mkD, items, lineN, Nat.reduceLeDiff,  List.reduceReplicate, Nat.reduceAdd, Nat.reduceSub, isTyV, tyOf, fin, show decide (Ty.str = Ty.str) = true from rfl, hx, cmpI, hg, show ((1 : Int) ≤ (x.length : Int)) = False by simp; omega]
      simp [isNm, isNmC, l1]
  | set ks => cases ht
  | ins c ns vs => cases ht
  | box i => cases ht
end Q
end FV

/-! is_tree -/
namespace FV
namespace Q
open PySem

/-- the leaves, as is_tree meets them -/
def lv (d : D) : List D :=
  match d with
  | .tup [a, b] => lv a ++ lv b
  | d => [d]
termination_by sizeOf d
def nodes (d : D) : Nat :=
  match d with
  | .tup [a, b] => nodes a + nodes b + 1
  | _ => 1
termination_by sizeOf d
theorem lv_pair (a b : D) : lv (.tup [a, b]) = lv a ++ lv b := by rw [lv]
theorem nodes_pair (a b : D) : nodes (.tup [a, b]) = nodes a + nodes b + 1 := by rw [nodes]
def isPair : D → Bool
  | .tup [_, _] => true
  | _ => false
theorem lv_leaf {d : D} (h : isPair d = false) : lv d = [d] := by
  rw [lv]
  intro a b e
  subst e
  cases h
theorem nodes_pos (d : D) : 1 ≤ nodes d := by
  rw [nodes.eq_def]
  split <;> omega
def okd (d : D) : Prop := ∀ x ∈ lv d, tidy x = true
def goT : List D → List Kk → Bool
  | [], _ => true
  | .str s :: r, ks => isNmC s && (!decide (Kk.s s ∈ ks) && (!decide (ks.length = 12) && goT r (ks ++ [.s s])))
  | _ :: _, _ => false
def isTr (d : D) : Bool := goT (lv d) []
def nodesL : List D → Nat
  | [] => 0
  | d :: r => nodes d + nodesL r
theorem nodesL_len : ∀ ws : List D, ws.length ≤ nodesL ws
  | [] => by simp [nodesL]
  | d :: r => by have := nodesL_len r; have := nodes_pos d; simp [nodesL]; omega

theorem bx2_0 {h : Hb} {x y : Option Ob} : bx (h ++ [x, y]) h.length = x := by simp [bx]
theorem bx2_1 {h : Hb} {x y : Option Ob} : bx (h ++ [x, y]) (h.length + 1) = y := by simp [bx, List.getElem?_append_right]
theorem set2_0 {h : Hb} {x y z : Option Ob} : (h ++ [x, y]).set h.length z = h ++ [z, y] := by simp [List.set_append_right]
theorem set2_1 {h : Hb} {x y z : Option Ob} : (h ++ [x, y]).set (h.length + 1) z = h ++ [x, z] := by simp [List.set_append_right]
theorem app2 {h : Hb} {x y : Option Ob} : h ++ [x] ++ [y] = h ++ [x, y] := by simp
theorem len1 {h : Hb} {x : Option Ob} : (h ++ [x]).length = h.length + 1 := by simp
theorem popB_ok {h : Hb} {i : Nat} {xs : List D} {y : D} (e : bx h i = some (.lst (xs ++ [y]))) : popB h (.box i) = .ok y (h.set i (some (.lst xs))) := by
  simp [popB, e]
theorem wrOk_ge {m i : Nat} {d : D} (h : m ≤ i) : wrOk m i d = true := by simp [wrOk, h]
theorem appB_ok {m i : Nat} {h : Hb} {xs : List D} {y : D} (e : bx h i = some (.lst xs)) (hm : m ≤ i) (hl : xs.length < lineN) : appB m h (.box i) y = .ok .non (h.set i (some (.lst (xs ++ [y])))) := by
  simp [appB, e, hl, wrOk_ge hm]
theorem saddB_ok {i : Nat} {h : Hb} {ks : List Kk} {s : Cs} (e : bx h i = some (.set ks)) (hl : ks.length + 1 < 4096) (hn : Kk.s s ∉ ks) : saddB h (.box i) (.str s) = .ok .non (h.set i (some (.set (ks ++ [.s s])))) := by
  simp [saddB, keyD, e, hl, hn]

theorem isTree_while {T : Tb} {nm g g8 : Nat} (hnm : T.fn nm = some (Cm.is_name g8)) (h8 : T.glo g8 = some (.int 8)) (hg : T.glo g = some (.int 12)) {n : Nat} (hn : 1 ≤ n) {h : Hb} (d0 : D) {W : Env → Hb → Out} (hW : W = whl (evT (cfN T n false h.length) (.var 2)) (evSs (cfN T n false h.length) (Cm.is_tree_b1 nm g))) :
    ∀ (N : Nat) (ws : List D) (ks : List Kk) (pv : Option Sl), nodesL ws ≤ N → N ≤ 1000000 → ks.length ≤ 12 → (∀ w ∈ ws, okd w) →
      (goT (ws.reverse.flatMap lv) ks = true ∧ ∃ σ' h', W [some (.v d0), some (.v (.box h.length)), some (.v (.box (h.length + 1))), pv] (h ++ [some (.set ks), some (.lst ws)]) = .nx σ' h' ∧ h'.take h.length = h) ∨
      (goT (ws.reverse.flatMap lv) ks = false ∧ ∃ h', W [some (.v d0), some (.v (.box h.length)), some (.v (.box (h.length + 1))), pv] (h ++ [some (.set ks), some (.lst ws)]) = .rt (.bl false) h' ∧ h'.take h.length = h) := by
  intro N
  induction N with
  | zero =>
    intro ws ks pv hN _ hk hw
    have : ws = [] := by
      cases ws with
      | nil => rfl
      | cons w r => have := nodes_pos w; simp [nodesL] at hN; omega
    subst this
    refine .inl ⟨rfl, ?_⟩
    rw [while_step hW]
    simp -implicitDefEqProofs -dsimp only [Out.andThen_nx, Out.andThen_rt, Out.andThen_ex, Out.andThen_st, R.bind_ok, R.bind_ex, R.bind_st, R.nox_ok, fromR_ok, fromR_ex, fromR_st, bnd_ok, bnd_ex, bnd_st, frm_ok, frm_ex, frm_st, thn_nx, thn_rt, thn_ex, thn_st, trO_ex, trO_nx, trO_rt, e_var, e_non, e_bl, e_int, e_str, e_glo, e_op1, e_op2, e_op3, e_cmp, e_cmp3, e_and, e_or, e_not, e_ite, e_tup, e_lst, e_dct0, e_set0, e_call, e_new, e_fld, e_lc, e_dc, e_isE, e_isV, e_atE, t_cmp, t_cmp3, t_and, t_or, t_not, t_ite, t_var, t_bl, t_op1, t_op2, t_call, t_fld, t_isE, t_isV, x_nil, x_cons, a_nil, a_ex, a_ec, r_e, r_rng1, r_rng2, s_expr, s_set, s_unp, s_seti, s_setf, s_ret, s_raise, s_ite, s_whl, s_for, s_tr, s_pass, ss_nil, ss_cons, getV, optV, List.getElem?_cons_zero, List.getElem?_cons_succ, List.set_cons_zero, List.set_cons_succ, startE, List.map_cons, List.map_nil, List.length_cons, List.length_nil, List.cons_append, List.nil_append, recv, sem1, sem2, optB, truthR, truth, seqL, isI, calm1, calm2, cfN_hot, cfN_m, cfN_call, cfN_glo, cfN_sub, cfN_sve, cfN_exn, Bool.false_and, Bool.true_and, Bool.and_true, Bool.and_false, Bool.or_true, Bool.true_or, Bool.or_false, Bool.false_or, Bool.not_true, Bool.not_false, if_true, if_false, Bool.false_eq_true, reduceIte, Option.map_some, Option.map_none, reduceCtorEq, ixD, atI_0, atI_1, atI_2, atI_3, atI_4, atI_5, atI_6, atI_7, atI_8, atI_9, atI_10, atI_11, atI_12, atI_nat', decide_true, decide_false, Bool.and_self, Option.isSome_some, Option.isSome_none, eqD_int, eqD_str, List.append_nil, stays_lst', stays_non', stays_tup', stays_str', stays_dic', wipeE, List.foldr_cons, List.foldr_nil, setV, mkL, mkD, items, lineN, Nat.reduceLeDiff,  List.reduceReplicate, Nat.reduceAdd, Nat.reduceSub, bx2_1, List.isEmpty_nil]
    exact ⟨_, _, rfl, by simp⟩
  | succ N ih =>
    intro ws ks pv hN hM hk hw
    rcases List.eq_nil_or_concat ws with rfl | ⟨w', p, rfl⟩
    · refine .inl ⟨rfl, ?_⟩
      rw [while_step hW]
      simp -implicitDefEqProofs -dsimp only [Out.andThen_nx, Out.andThen_rt, Out.andThen_ex, Out.andThen_st, R.bind_ok, R.bind_ex, R.bind_st, R.nox_ok, fromR_ok, fromR_ex, fromR_st, bnd_ok, bnd_ex, bnd_st, frm_ok, frm_ex, frm_st, thn_nx, thn_rt, thn_ex, thn_st, trO_ex, trO_nx, trO_rt, e_var, e_non, e_bl, e_int, e_str, e_glo, e_op1, e_op2, e_op3, e_cmp, e_cmp3, e_and, e_or, e_not, e_ite, e_tup, e_lst, e_dct0, e_set0, e_call, e_new, e_fld, e_lc, e_dc, e_isE, e_isV, e_atE, t_cmp, t_cmp3, t_and, t_or, t_not, t_ite, t_var, t_bl, t_op1, t_op2, t_call, t_fld, t_isE, t_isV, x_nil, x_cons, a_nil, a_ex, a_ec, r_e, r_rng1, r_rng2, s_expr, s_set, s_unp, s_seti, s_setf, s_ret, s_raise, s_ite, s_whl, s_for, s_tr, s_pass, ss_nil, ss_cons, getV, optV, List.getElem?_cons_zero, List.getElem?_cons_succ, List.set_cons_zero, List.set_cons_succ, startE, List.map_cons, List.map_nil, List.length_cons, List.length_nil, List.cons_append, List.nil_append, recv, sem1, sem2, optB, truthR, truth, seqL, isI, calm1, calm2, cfN_hot, cfN_m, cfN_call, cfN_glo, cfN_sub, cfN_sve, cfN_exn, Bool.false_and, Bool.true_and, Bool.and_true, Bool.and_false, Bool.or_true, Bool.true_or, Bool.or_false, Bool.false_or, Bool.not_true, Bool.not_false, if_true, if_false, Bool.false_eq_true, reduceIte, Option.map_some, Option.map_none, reduceCtorEq, ixD, atI_0, atI_1, atI_2, atI_3, atI_4, atI_5, atI_6, atI_7, atI_8, atI_9, atI_10, atI_11, atI_12, atI_nat', decide_true, decide_false, Bool.and_self, Option.isSome_some, Option.isSome_none, eqD_int, eqD_str, List.append_nil, stays_lst', stays_non', stays_tup', stays_str', stays_dic', wipeE, List.foldr_cons, List.foldr_nil, setV, mkL, mkD, items, lineN, Nat.reduceLeDiff,  List.reduceReplicate, Nat.reduceAdd, Nat.reduceSub, bx2_1, List.isEmpty_nil]
      exact ⟨_, _, rfl, by simp⟩
    · rw [List.concat_eq_append] at *
      have hnl : nodesL (w' ++ [p]) = nodesL w' + nodes p := by
        clear hN hw
        induction w' with
        | nil => simp [nodesL]
        | cons a r ih => simp [nodesL, ih]; omega
      rw [hnl] at hN
      have hwp : okd p := hw p (by simp)
      have hw' : ∀ w ∈ w', okd w := fun w h => hw w (by simp [h])
      have hlen := nodesL_len w'
      rw [while_step hW]
      have ne : (w' ++ [p]).isEmpty = false := by simp
      simp -implicitDefEqProofs -dsimp only [Out.andThen_nx, Out.andThen_rt, Out.andThen_ex, Out.andThen_st, R.bind_ok, R.bind_ex, R.bind_st, R.nox_ok, fromR_ok, fromR_ex, fromR_st, bnd_ok, bnd_ex, bnd_st, frm_ok, frm_ex, frm_st, thn_nx, thn_rt, thn_ex, thn_st, trO_ex, trO_nx, trO_rt, e_var, e_non, e_bl, e_int, e_str, e_glo, e_op1, e_op2, e_op3, e_cmp, e_cmp3, e_and, e_or, e_not, e_ite, e_tup, e_lst, e_dct0, e_set0, e_call, e_new, e_fld, e_lc, e_dc, e_isE, e_isV, e_atE, t_cmp, t_cmp3, t_and, t_or, t_not, t_ite, t_var, t_bl, t_op1, t_op2, t_call, t_fld, t_isE, t_isV, x_nil, x_cons, a_nil, a_ex, a_ec, r_e, r_rng1, r_rng2, s_expr, s_set, s_unp, s_seti, s_setf, s_ret, s_raise, s_ite, s_whl, s_for, s_tr, s_pass, ss_nil, ss_cons, getV, optV, List.getElem?_cons_zero, List.getElem?_cons_succ, List.set_cons_zero, List.set_cons_succ, startE, List.map_cons, List.map_nil, List.length_cons, List.length_nil, List.cons_append, List.nil_append, recv, sem1, sem2, optB, truthR, truth, seqL, isI, calm1, calm2, cfN_hot, cfN_m, cfN_call, cfN_glo, cfN_sub, cfN_sve, cfN_exn, Bool.false_and, Bool.true_and, Bool.and_true, Bool.and_false, Bool.or_true, Bool.true_or, Bool.or_false, Bool.false_or, Bool.not_true, Bool.not_false, if_true, if_false, Bool.false_eq_true, reduceIte, Option.map_some, Option.map_none, reduceCtorEq, ixD, atI_0, atI_1, atI_2, atI_3, atI_4, atI_5, atI_6, atI_7, atI_8, atI_9, atI_10, atI_11, atI_12, atI_nat', decide_true, decide_false, Bool.and_self, Option.isSome_some, Option.isSome_none, eqD_int, eqD_str, List.append_nil, stays_lst', stays_non', stays_tup', stays_str', stays_dic', wipeE, List.foldr_cons, List.foldr_nil, setV, mkL, mkD, items, lineN, Nat.reduceLeDiff,  List.reduceReplicate, Nat.reduceAdd, Nat.reduceSub, bx2_1, ne]
      rw [List.reverse_append, List.reverse_singleton, List.flatMap_append, List.flatMap_singleton]
      cases hp : isPair p with
      | true =>
        obtain ⟨a, b, rfl⟩ : ∃ a b, p = .tup [a, b] := by
          match p, hp with
          | .tup [a, b], _ => exact ⟨a, b, rfl⟩
        rw [nodes_pair] at hN
        have l1 : w'.length < lineN := by unfold lineN; omega
        have l2 : (w' ++ [b]).length < lineN := by unfold lineN; simp; omega
        have e := ih (w' ++ [b] ++ [a]) ks (some (.v (.tup [a, b]))) (by
          have : nodesL (w' ++ [b] ++ [a]) = nodesL w' + nodes a + nodes b := by
            clear hN hw hw' ne hnl hlen l1 l2
            induction w' with
            | nil => simp [nodesL]; omega
            | cons a r ih => simp [nodesL] at ih ⊢; omega
          omega) (by omega) hk (by
          intro w hw2
          simp only [List.mem_append, List.mem_singleton] at hw2
          rcases hw2 with (hw2 | rfl) | rfl
          · exact hw' w hw2
          · exact fun x hx => hwp x (by rw [lv_pair]; simp [hx])
          · exact fun x hx => hwp x (by rw [lv_pair]; simp [hx]))
        have e2 : (w' ++ [b] ++ [a]).reverse.flatMap lv = lv (.tup [a, b]) ++ w'.reverse.flatMap lv := by
          rw [lv_pair]; simp
        rw [e2] at e
        simp -implicitDefEqProofs -dsimp only [Cm.is_tree_b1, Out.andThen_nx, Out.andThen_rt, Out.andThen_ex, Out.andThen_st, R.bind_ok, R.bind_ex, R.bind_st, R.nox_ok, fromR_ok, fromR_ex, fromR_st, bnd_ok, bnd_ex, bnd_st, frm_ok, frm_ex, frm_st, thn_nx, thn_rt, thn_ex, thn_st, trO_ex, trO_nx, trO_rt, e_var, e_non, e_bl, e_int, e_str, e_glo, e_op1, e_op2, e_op3, e_cmp, e_cmp3, e_and, e_or, e_not, e_ite, e_tup, e_lst, e_dct0, e_set0, e_call, e_new, e_fld, e_lc, e_dc, e_isE, e_isV, e_atE, t_cmp, t_cmp3, t_and, t_or, t_not, t_ite, t_var, t_bl, t_op1, t_op2, t_call, t_fld, t_isE, t_isV, x_nil, x_cons, a_nil, a_ex, a_ec, r_e, r_rng1, r_rng2, s_expr, s_set, s_unp, s_seti, s_setf, s_ret, s_raise, s_ite, s_whl, s_for, s_tr, s_pass, ss_nil, ss_cons, getV, optV, List.getElem?_cons_zero, List.getElem?_cons_succ, List.set_cons_zero, List.set_cons_succ, startE, List.map_cons, List.map_nil, List.length_cons, List.length_nil, List.cons_append, List.nil_append, recv, sem1, sem2, optB, truthR, truth, seqL, isI, calm1, calm2, cfN_hot, cfN_m, cfN_call, cfN_glo, cfN_sub, cfN_sve, cfN_exn, Bool.false_and, Bool.true_and, Bool.and_true, Bool.and_false, Bool.or_true, Bool.true_or, Bool.or_false, Bool.false_or, Bool.not_true, Bool.not_false, if_true, if_false, Bool.false_eq_true, reduceIte, Option.map_some, Option.map_none, reduceCtorEq, ixD, atI_0, atI_1, atI_2, atI_3, atI_4, atI_5, atI_6, atI_7, atI_8, atI_9, atI_10, atI_11, atI_12, atI_nat', decide_true, decide_false, Bool.and_self, Option.isSome_some, Option.isSome_none, eqD_int, eqD_str, List.append_nil, stays_lst', stays_non', stays_tup', stays_str', stays_dic', wipeE, List.foldr_cons, List.foldr_nil, setV, mkL, mkD, items, lineN, Nat.reduceLeDiff,  List.reduceReplicate, Nat.reduceAdd, Nat.reduceSub, popB_ok bx2_1, set2_1, isTyV, tyOf, show decide (Ty.tuple = Ty.tuple) = true from rfl, bx2_1, appB_ok bx2_1 (Nat.le_succ _) l1, appB_ok bx2_1 (Nat.le_succ _) l2, show (((0 + 1 + 1 : Nat) : Int) = 2) = True by simp, show (((2 : Nat) : Int) = 2) = True by simp]
        exact e
      | false =>
        rw [lv_leaf hp]
        have ht : tidy p = true := hwp p (by rw [lv_leaf hp]; simp)
        have en := isName_ok hnm h8 (n := n) (mc := h.length) (h := h ++ [some (.set ks), some (.lst w')]) hn ht
        have ex : ∀ r, exitF false h.length (.rt (.bl r) (h ++ [some (.set ks), some (.lst w')])) = .ok (.bl r) h := fun r => exit_rt rfl (by simp)
        have tk : (h ++ [some (Ob.set ks), some (Ob.lst w')]).take h.length = h := by simp
        cases p with
        | non => exact .inr ⟨rfl, _, by simp -implicitDefEqProofs -dsimp only [Cm.is_tree_b1, Out.andThen_nx, Out.andThen_rt, Out.andThen_ex, Out.andThen_st, R.bind_ok, R.bind_ex, R.bind_st, R.nox_ok, fromR_ok, fromR_ex, fromR_st, bnd_ok, bnd_ex, bnd_st, frm_ok, frm_ex, frm_st, thn_nx, thn_rt, thn_ex, thn_st, trO_ex, trO_nx, trO_rt, e_var, e_non, e_bl, e_int, e_str, e_glo, e_op1, e_op2, e_op3, e_cmp, e_cmp3, e_and, e_or, e_not, e_ite, e_tup, e_lst, e_dct0, e_set0, e_call, e_new, e_fld, e_lc, e_dc, e_isE, e_isV, e_atE, t_cmp, t_cmp3, t_and, t_or, t_not, t_ite, t_var, t_bl, t_op1, t_op2, t_call, t_fld, t_isE, t_isV, x_nil, x_cons, a_nil, a_ex, a_ec, r_e, r_rng1, r_rng2, s_expr, s_set, s_unp, s_seti, s_setf, s_ret, s_raise, s_ite, s_whl, s_for, s_tr, s_pass, ss_nil, ss_cons, getV, optV, List.getElem?_cons_zero, List.getElem?_cons_succ, List.set_cons_zero, List.set_cons_succ, startE, List.map_cons, List.map_nil, List.length_cons, List.length_nil, List.cons_append, List.nil_append, recv, sem1, sem2, optB, truthR, truth, seqL, isI, calm1, calm2, cfN_hot, cfN_m, cfN_call, cfN_glo, cfN_sub, cfN_sve, cfN_exn, Bool.false_and, Bool.true_and, Bool.and_true, Bool.and_false, Bool.or_true, Bool.true_or, Bool.or_false, Bool.false_or, Bool.not_true, Bool.not_false, if_true, if_false, Bool.false_eq_true, reduceIte, Option.map_some, Option.map_none, reduceCtorEq, ixD, atI_0, atI_1, atI_2, atI_3, atI_4, atI_5, atI_6, atI_7, atI_8, atI_9, atI_10, atI_11, atI_12, atI_nat', decide_true, decide_false, Bool.and_self, Option.isSome_some, Option.isSome_none, eqD_int, eqD_str, List.append_nil, stays_lst', stays_non', stays_tup', stays_str', stays_dic', wipeE, List.foldr_cons, List.foldr_nil, setV, mkL, mkD, items, lineN, Nat.reduceLeDiff,  List.reduceReplicate, Nat.reduceAdd, Nat.reduceSub, popB_ok bx2_1, set2_1, isTyV, tyOf, en, isNm], tk⟩
        | bl b => exact .inr ⟨rfl, _, by simp -implicitDefEqProofs -dsimp only [Cm.is_tree_b1, Out.andThen_nx, Out.andThen_rt, Out.andThen_ex, Out.andThen_st, R.bind_ok, R.bind_ex, R.bind_st, R.nox_ok, fromR_ok, fromR_ex, fromR_st, bnd_ok, bnd_ex, bnd_st, frm_ok, frm_ex, frm_st, thn_nx, thn_rt, thn_ex, thn_st, trO_ex, trO_nx, trO_rt, e_var, e_non, e_bl, e_int, e_str, e_glo, e_op1, e_op2, e_op3, e_cmp, e_cmp3, e_and, e_or, e_not, e_ite, e_tup, e_lst, e_dct0, e_set0, e_call, e_new, e_fld, e_lc, e_dc, e_isE, e_isV, e_atE, t_cmp, t_cmp3, t_and, t_or, t_not, t_ite, t_var, t_bl, t_op1, t_op2, t_call, t_fld, t_isE, t_isV, x_nil, x_cons, a_nil, a_ex, a_ec, r_e, r_rng1, r_rng2, s_expr, s_set, s_unp, s_seti, s_setf, s_ret, s_raise, s_ite, s_whl, s_for, s_tr, s_pass, ss_nil, ss_cons, getV, optV, List.getElem?_cons_zero, List.getElem?_cons_succ, List.set_cons_zero, List.set_cons_succ, startE, List.map_cons, List.map_nil, List.length_cons, List.length_nil, List.cons_append, List.nil_append, recv, sem1, sem2, optB, truthR, truth, seqL, isI, calm1, calm2, cfN_hot, cfN_m, cfN_call, cfN_glo, cfN_sub, cfN_sve, cfN_exn, Bool.false_and, Bool.true_and, Bool.and_true, Bool.and_false, Bool.or_true, Bool.true_or, Bool.or_false, Bool.false_or, Bool.not_true, Bool.not_false, if_true, if_false, Bool.false_eq_true, reduceIte, Option.map_some, Option.map_none, reduceCtorEq, ixD, atI_0, atI_1, atI_2, atI_3, atI_4, atI_5, atI_6, atI_7, atI_8, atI_9, atI_10, atI_11, atI_12, atI_nat', decide_true, decide_false, Bool.and_self, Option.isSome_some, Option.isSome_none, eqD_int, eqD_str, List.append_nil, stays_lst', stays_non', stays_tup', stays_str', stays_dic', wipeE, List.foldr_cons, List.foldr_nil, setV, mkL, mkD, items, lineN, Nat.reduceLeDiff,  List.reduceReplicate, Nat.reduceAdd, Nat.reduceSub, popB_ok bx2_1, set2_1, isTyV, tyOf, en, isNm, show decide (Ty.bool = Ty.tuple) = false from rfl, show decide (Ty.tuple = Ty.int) = false from rfl], tk⟩
        | int b => exact .inr ⟨rfl, _, by simp -implicitDefEqProofs -dsimp only [Cm.is_tree_b1, Out.andThen_nx, Out.andThen_rt, Out.andThen_ex, Out.andThen_st, R.bind_ok, R.bind_ex, R.bind_st, R.nox_ok, fromR_ok, fromR_ex, fromR_st, bnd_ok, bnd_ex, bnd_st, frm_ok, frm_ex, frm_st, thn_nx, thn_rt, thn_ex, thn_st, trO_ex, trO_nx, trO_rt, e_var, e_non, e_bl, e_int, e_str, e_glo, e_op1, e_op2, e_op3, e_cmp, e_cmp3, e_and, e_or, e_not, e_ite, e_tup, e_lst, e_dct0, e_set0, e_call, e_new, e_fld, e_lc, e_dc, e_isE, e_isV, e_atE, t_cmp, t_cmp3, t_and, t_or, t_not, t_ite, t_var, t_bl, t_op1, t_op2, t_call, t_fld, t_isE, t_isV, x_nil, x_cons, a_nil, a_ex, a_ec, r_e, r_rng1, r_rng2, s_expr, s_set, s_unp, s_seti, s_setf, s_ret, s_raise, s_ite, s_whl, s_for, s_tr, s_pass, ss_nil, ss_cons, getV, optV, List.getElem?_cons_zero, List.getElem?_cons_succ, List.set_cons_zero, List.set_cons_succ, startE, List.map_cons, List.map_nil, List.length_cons, List.length_nil, List.cons_append, List.nil_append, recv, sem1, sem2, optB, truthR, truth, seqL, isI, calm1, calm2, cfN_hot, cfN_m, cfN_call, cfN_glo, cfN_sub, cfN_sve, cfN_exn, Bool.false_and, Bool.true_and, Bool.and_true, Bool.and_false, Bool.or_true, Bool.true_or, Bool.or_false, Bool.false_or, Bool.not_true, Bool.not_false, if_true, if_false, Bool.false_eq_true, reduceIte, Option.map_some, Option.map_none, reduceCtorEq, ixD, atI_0, atI_1, atI_2, atI_3, atI_4, atI_5, atI_6, atI_7, atI_8, atI_9, atI_10, atI_11, atI_12, atI_nat', decide_true, decide_false, Bool.and_self, Option.isSome_some, Option.isSome_none, eqD_int, eqD_str, List.append_nil, stays_lst', stays_non', stays_tup', stays_str', stays_dic', wipeE, List.foldr_cons, List.foldr_nil, setV, mkL, mkD, items, lineN, Nat.reduceLeDiff,  List.reduceReplicate, Nat.reduceAdd, Nat.reduceSub, popB_ok bx2_1, set2_1, isTyV, tyOf, en, isNm, show decide (Ty.int = Ty.tuple) = false from rfl, show decide (Ty.int = Ty.bool) = false from rfl], tk⟩
        | lst b => exact .inr ⟨rfl, _, by simp -implicitDefEqProofs -dsimp only [Cm.is_tree_b1, Out.andThen_nx, Out.andThen_rt, Out.andThen_ex, Out.andThen_st, R.bind_ok, R.bind_ex, R.bind_st, R.nox_ok, fromR_ok, fromR_ex, fromR_st, bnd_ok, bnd_ex, bnd_st, frm_ok, frm_ex, frm_st, thn_nx, thn_rt, thn_ex, thn_st, trO_ex, trO_nx, trO_rt, e_var, e_non, e_bl, e_int, e_str, e_glo, e_op1, e_op2, e_op3, e_cmp, e_cmp3, e_and, e_or, e_not, e_ite, e_tup, e_lst, e_dct0, e_set0, e_call, e_new, e_fld, e_lc, e_dc, e_isE, e_isV, e_atE, t_cmp, t_cmp3, t_and, t_or, t_not, t_ite, t_var, t_bl, t_op1, t_op2, t_call, t_fld, t_isE, t_isV, x_nil, x_cons, a_nil, a_ex, a_ec, r_e, r_rng1, r_rng2, s_expr, s_set, s_unp, s_seti, s_setf, s_ret, s_raise, s_ite, s_whl, s_for, s_tr, s_pass, ss_nil, ss_cons, getV, optV, List.getElem?_cons_zero, List.getElem?_cons_succ, List.set_cons_zero, List.set_cons_succ, startE, List.map_cons, List.map_nil, List.length_cons, List.length_nil, List.cons_append, List.nil_append, recv, sem1, sem2, optB, truthR, truth, seqL, isI, calm1, calm2, cfN_hot, cfN_m, cfN_call, cfN_glo, cfN_sub, cfN_sve, cfN_exn, Bool.false_and, Bool.true_and, Bool.and_true, Bool.and_false, Bool.or_true, Bool.true_or, Bool.or_false, Bool.false_or, Bool.not_true, Bool.not_false, if_true, if_false, Bool.false_eq_true, reduceIte, Option.map_some, Option.map_none, reduceCtorEq, ixD, atI_0, atI_1, atI_2, atI_3, atI_4, atI_5, atI_6, atI_7, atI_8, atI_9, atI_10, atI_11, atI_12, atI_nat', decide_true, decide_false, Bool.and_self, Option.isSome_some, Option.isSome_none, eqD_int, eqD_str, List.append_nil, stays_lst', stays_non', stays_tup', stays_str', stays_dic', wipeE, List.foldr_cons, List.foldr_nil, setV, mkL, mkD, items, lineN, Nat.reduceLeDiff,  List.reduceReplicate, Nat.reduceAdd, Nat.reduceSub, popB_ok bx2_1, set2_1, isTyV, tyOf, en, isNm, show decide (Ty.list = Ty.tuple) = false from rfl, show decide (Ty.list = Ty.bool) = false from rfl], tk⟩
        | dic b c => exact .inr ⟨rfl, _, by simp -implicitDefEqProofs -dsimp only [Cm.is_tree_b1, Out.andThen_nx, Out.andThen_rt, Out.andThen_ex, Out.andThen_st, R.bind_ok, R.bind_ex, R.bind_st, R.nox_ok, fromR_ok, fromR_ex, fromR_st, bnd_ok, bnd_ex, bnd_st, frm_ok, frm_ex, frm_st, thn_nx, thn_rt, thn_ex, thn_st, trO_ex, trO_nx, trO_rt, e_var, e_non, e_bl, e_int, e_str, e_glo, e_op1, e_op2, e_op3, e_cmp, e_cmp3, e_and, e_or, e_not, e_ite, e_tup, e_lst, e_dct0, e_set0, e_call, e_new, e_fld, e_lc, e_dc, e_isE, e_isV, e_atE, t_cmp, t_cmp3, t_and, t_or, t_not, t_ite, t_var, t_bl, t_op1, t_op2, t_call, t_fld, t_isE, t_isV, x_nil, x_cons, a_nil, a_ex, a_ec, r_e, r_rng1, r_rng2, s_expr, s_set, s_unp, s_seti, s_setf, s_ret, s_raise, s_ite, s_whl, s_for, s_tr, s_pass, ss_nil, ss_cons, getV, optV, List.getElem?_cons_zero, List.getElem?_cons_succ, List.set_cons_zero, List.set_cons_succ, startE, List.map_cons, List.map_nil, List.length_cons, List.length_nil, List.cons_append, List.nil_append, recv, sem1, sem2, optB, truthR, truth, seqL, isI, calm1, calm2, cfN_hot, cfN_m, cfN_call, cfN_glo, cfN_sub, cfN_sve, cfN_exn, Bool.false_and, Bool.true_and, Bool.and_true, Bool.and_false, Bool.or_true, Bool.true_or, Bool.or_false, Bool.false_or, Bool.not_true, Bool.not_false, if_true, if_false, Bool.false_eq_true, reduceIte, Option.map_some, Option.map_none, reduceCtorEq, ixD, atI_0, atI_1, atI_2, atI_3, atI_4, atI_5, atI_6, atI_7, atI_8, atI_9, atI_10, atI_11, atI_12, atI_nat', decide_true, decide_false, Bool.and_self, Option.isSome_some, Option.isSome_none, eqD_int, eqD_str, List.append_nil, stays_lst', stays_non', stays_tup', stays_str', stays_dic', wipeE, List.foldr_cons, List.foldr_nil, setV, mkL, mkD, items, lineN, Nat.reduceLeDiff,  List.reduceReplicate, Nat.reduceAdd, Nat.reduceSub, popB_ok bx2_1, set2_1, isTyV, tyOf, en, isNm, show decide (Ty.dict = Ty.tuple) = false from rfl, show decide (Ty.dict = Ty.bool) = false from rfl], tk⟩
        | tup xs =>
          have hx : ((xs.length : Int) = 2) = False := by
            simp only [eq_iff_iff, iff_false]
            intro e
            have e2 : xs.length = 2 := by omega
            match xs, e2 with
            | [a, b], _ => cases hp
          have g0 : goT ([D.tup xs] ++ w'.reverse.flatMap lv) ks = false := rfl
          exact .inr ⟨g0, _, by simp -implicitDefEqProofs -dsimp only [Cm.is_tree_b1, Out.andThen_nx, Out.andThen_rt, Out.andThen_ex, Out.andThen_st, R.bind_ok, R.bind_ex, R.bind_st, R.nox_ok, fromR_ok, fromR_ex, fromR_st, bnd_ok, bnd_ex, bnd_st, frm_ok, frm_ex, frm_st, thn_nx, thn_rt, thn_ex, thn_st, trO_ex, trO_nx, trO_rt, e_var, e_non, e_bl, e_int, e_str, e_glo, e_op1, e_op2, e_op3, e_cmp, e_cmp3, e_and, e_or, e_not, e_ite, e_tup, e_lst, e_dct0, e_set0, e_call, e_new, e_fld, e_lc, e_dc, e_isE, e_isV, e_atE, t_cmp, t_cmp3, t_and, t_or, t_not, t_ite, t_var, t_bl, t_op1, t_op2, t_call, t_fld, t_isE, t_isV, x_nil, x_cons, a_nil, a_ex, a_ec, r_e, r_rng1, r_rng2, s_expr, s_set, s_unp, s_seti, s_setf, s_ret, s_raise, s_ite, s_whl, s_for, s_tr, s_pass, ss_nil, ss_cons, getV, optV, List.getElem?_cons_zero, List.getElem?_cons_succ, List.set_cons_zero, List.set_cons_succ, startE, List.map_cons, List.map_nil, List.length_cons, List.length_nil, List.cons_append, List.nil_append, recv, sem1, sem2, optB, truthR, truth, seqL, isI, calm1, calm2, cfN_hot, cfN_m, cfN_call, cfN_glo, cfN_sub, cfN_sve, cfN_exn, Bool.false_and, Bool.true_and, Bool.and_true, Bool.and_false, Bool.or_true, Bool.true_or, Bool.or_false, Bool.false_or, Bool.not_true, Bool.not_false, if_true, if_false, Bool.false_eq_true, reduceIte, Option.map_some, Option.map_none, reduceCtorEq, ixD, atI_0, atI_1, atI_2, atI_3, atI_4, atI_5, atI_6, atI_7, atI_8, atI_9, atI_10, atI_11, atI_12, atI_nat', decide_true, decide_false, Bool.and_self, Option.isSome_some, Option.isSome_none, eqD_int, eqD_str, List.append_nil, stays_lst', stays_non', stays_tup', stays_str', stays_dic', wipeE, List.foldr_cons, List.foldr_nil, setV, mkL, mkD, items, lineN, Nat.reduceLeDiff,  List.reduceReplicate, Nat.reduceAdd, Nat.reduceSub, popB_ok bx2_1, set2_1, isTyV, tyOf, show decide (Ty.tuple = Ty.tuple) = true from rfl, hx, en, isNm], tk⟩
        | set ks => cases ht
        | ins c ns vs => cases ht
        | box i => cases ht
        | str s =>
          simp only [isNm] at en
          simp only [List.singleton_append, goT]
          cases h1 : isNmC s with
          | false =>
            rw [h1] at en
            exact .inr ⟨rfl, _, by simp -implicitDefEqProofs -dsimp only [Cm.is_tree_b1, Out.andThen_nx, Out.andThen_rt, Out.andThen_ex, Out.andThen_st, R.bind_ok, R.bind_ex, R.bind_st, R.nox_ok, fromR_ok, fromR_ex, fromR_st, bnd_ok, bnd_ex, bnd_st, frm_ok, frm_ex, frm_st, thn_nx, thn_rt, thn_ex, thn_st, trO_ex, trO_nx, trO_rt, e_var, e_non, e_bl, e_int, e_str, e_glo, e_op1, e_op2, e_op3, e_cmp, e_cmp3, e_and, e_or, e_not, e_ite, e_tup, e_lst, e_dct0, e_set0, e_call, e_new, e_fld, e_lc, e_dc, e_isE, e_isV, e_atE, t_cmp, t_cmp3, t_and, t_or, t_not, t_ite, t_var, t_bl, t_op1, t_op2, t_call, t_fld, t_isE, t_isV, x_nil, x_cons, a_nil, a_ex, a_ec, r_e, r_rng1, r_rng2, s_expr, s_set, s_unp, s_seti, s_setf, s_ret, s_raise, s_ite, s_whl, s_for, s_tr, s_pass, ss_nil, ss_cons, getV, optV, List.getElem?_cons_zero, List.getElem?_cons_succ, List.set_cons_zero, List.set_cons_succ, startE, List.map_cons, List.map_nil, List.length_cons, List.length_nil, List.cons_append, List.nil_append, recv, sem1, sem2, optB, truthR, truth, seqL, isI, calm1, calm2, cfN_hot, cfN_m, cfN_call, cfN_glo, cfN_sub, cfN_sve, cfN_exn, Bool.false_and, Bool.true_and, Bool.and_true, Bool.and_false, Bool.or_true, Bool.true_or, Bool.or_false, Bool.false_or, Bool.not_true, Bool.not_false, if_true, if_false, Bool.false_eq_true, reduceIte, Option.map_some, Option.map_none, reduceCtorEq, ixD, atI_0, atI_1, atI_2, atI_3, atI_4, atI_5, atI_6, atI_7, atI_8, atI_9, atI_10, atI_11, atI_12, atI_nat', decide_true, decide_false, Bool.and_self, Option.isSome_some, Option.isSome_none, eqD_int, eqD_str, List.append_nil, stays_lst', stays_non', stays_tup', stays_str', stays_dic', wipeE, List.foldr_cons, List.foldr_nil, setV, mkL, mkD, items, lineN, Nat.reduceLeDiff,  List.reduceReplicate, Nat.reduceAdd, Nat.reduceSub, popB_ok bx2_1, set2_1, isTyV, tyOf, en, show decide (Ty.str = Ty.tuple) = false from rfl, show decide (Ty.str = Ty.bool) = false from rfl], tk⟩
          | true =>
            rw [h1] at en
            by_cases h2 : Kk.s s ∈ ks
            · exact .inr ⟨by simp [h2], _, by simp -implicitDefEqProofs -dsimp only [Cm.is_tree_b1, Out.andThen_nx, Out.andThen_rt, Out.andThen_ex, Out.andThen_st, R.bind_ok, R.bind_ex, R.bind_st, R.nox_ok, fromR_ok, fromR_ex, fromR_st, bnd_ok, bnd_ex, bnd_st, frm_ok, frm_ex, frm_st, thn_nx, thn_rt, thn_ex, thn_st, trO_ex, trO_nx, trO_rt, e_var, e_non, e_bl, e_int, e_str, e_glo, e_op1, e_op2, e_op3, e_cmp, e_cmp3, e_and, e_or, e_not, e_ite, e_tup, e_lst, e_dct0, e_set0, e_call, e_new, e_fld, e_lc, e_dc, e_isE, e_isV, e_atE, t_cmp, t_cmp3, t_and, t_or, t_not, t_ite, t_var, t_bl, t_op1, t_op2, t_call, t_fld, t_isE, t_isV, x_nil, x_cons, a_nil, a_ex, a_ec, r_e, r_rng1, r_rng2, s_expr, s_set, s_unp, s_seti, s_setf, s_ret, s_raise, s_ite, s_whl, s_for, s_tr, s_pass, ss_nil, ss_cons, getV, optV, List.getElem?_cons_zero, List.getElem?_cons_succ, List.set_cons_zero, List.set_cons_succ, startE, List.map_cons, List.map_nil, List.length_cons, List.length_nil, List.cons_append, List.nil_append, recv, sem1, sem2, optB, truthR, truth, seqL, isI, calm1, calm2, cfN_hot, cfN_m, cfN_call, cfN_glo, cfN_sub, cfN_sve, cfN_exn, Bool.false_and, Bool.true_and, Bool.and_true, Bool.and_false, Bool.or_true, Bool.true_or, Bool.or_false, Bool.false_or, Bool.not_true, Bool.not_false, if_true, if_false, Bool.false_eq_true, reduceIte, Option.map_some, Option.map_none, reduceCtorEq, ixD, atI_0, atI_1, atI_2, atI_3, atI_4, atI_5, atI_6, atI_7, atI_8, atI_9, atI_10, atI_11, atI_12, atI_nat', decide_true, decide_false, Bool.and_self, Option.isSome_some, Option.isSome_none, eqD_int, eqD_str, List.append_nil, stays_lst', stays_non', stays_tup', stays_str', stays_dic', wipeE, List.foldr_cons, List.foldr_nil, setV, mkL, mkD, items, lineN, Nat.reduceLeDiff,  List.reduceReplicate, Nat.reduceAdd, Nat.reduceSub, popB_ok bx2_1, set2_1, isTyV, tyOf, en, show decide (Ty.str = Ty.tuple) = false from rfl, show decide (Ty.str = Ty.bool) = false from rfl, inD, setV, bx2_0, keyD, h2], tk⟩
            · by_cases h3 : ks.length = 12
              · have h3' : ((ks.length : Int) = 12) = True := by simp; omega
                exact .inr ⟨by simp [h3], _, by simp -implicitDefEqProofs -dsimp only [Cm.is_tree_b1, Out.andThen_nx, Out.andThen_rt, Out.andThen_ex, Out.andThen_st, R.bind_ok, R.bind_ex, R.bind_st, R.nox_ok, fromR_ok, fromR_ex, fromR_st, bnd_ok, bnd_ex, bnd_st, frm_ok, frm_ex, frm_st, thn_nx, thn_rt, thn_ex, thn_st, trO_ex, trO_nx, trO_rt, e_var, e_non, e_bl, e_int, e_str, e_glo, e_op1, e_op2, e_op3, e_cmp, e_cmp3, e_and, e_or, e_not, e_ite, e_tup, e_lst, e_dct0, e_set0, e_call, e_new, e_fld, e_lc, e_dc, e_isE, e_isV, e_atE, t_cmp, t_cmp3, t_and, t_or, t_not, t_ite, t_var, t_bl, t_op1, t_op2, t_call, t_fld, t_isE, t_isV, x_nil, x_cons, a_nil, a_ex, a_ec, r_e, r_rng1, r_rng2, s_expr, s_set, s_unp, s_seti, s_setf, s_ret, s_raise, s_ite, s_whl, s_for, s_tr, s_pass, ss_nil, ss_cons, getV, optV, List.getElem?_cons_zero, List.getElem?_cons_succ, List.set_cons_zero, List.set_cons_succ, startE, List.map_cons, List.map_nil, List.length_cons, List.length_nil, List.cons_append, List.nil_append, recv, sem1, sem2, optB, truthR, truth, seqL, isI, calm1, calm2, cfN_hot, cfN_m, cfN_call, cfN_glo, cfN_sub, cfN_sve, cfN_exn, Bool.false_and, Bool.true_and, Bool.and_true, Bool.and_false, Bool.or_true, Bool.true_or, Bool.or_false, Bool.false_or, Bool.not_true, Bool.not_false, if_true, if_false, Bool.false_eq_true, reduceIte, Option.map_some, Option.map_none, reduceCtorEq, ixD, atI_0, atI_1, atI_2, atI_3, atI_4, atI_5, atI_6, atI_7, atI_8, atI_9, atI_10, atI_11, atI_12, atI_nat', decide_true, decide_false, Bool.and_self, Option.isSome_some, Option.isSome_none, eqD_int, eqD_str, List.append_nil, stays_lst', stays_non', stays_tup', stays_str', stays_dic', wipeE, List.foldr_cons, List.foldr_nil, setV, mkL, mkD, items, lineN, Nat.reduceLeDiff,  List.reduceReplicate, Nat.reduceAdd, Nat.reduceSub, popB_ok bx2_1, set2_1, isTyV, tyOf, en, show decide (Ty.str = Ty.tuple) = false from rfl, show decide (Ty.str = Ty.bool) = false from rfl, inD, setV, bx2_0, keyD, h2, hg, h3'], tk⟩
              · have h3' : ((ks.length : Int) = 12) = False := by simp; omega
                have e := ih w' (ks ++ [.s s]) (some (.v (.str s))) (by have := nodes_pos (.str s); omega) (by omega) (by simp; omega) hw'
                simp -implicitDefEqProofs -dsimp only [Cm.is_tree_b1, Out.andThen_nx, Out.andThen_rt, Out.andThen_ex, Out.andThen_st, R.bind_ok, R.bind_ex, R.bind_st, R.nox_ok, fromR_ok, fromR_ex, fromR_st, bnd_ok, bnd_ex, bnd_st, frm_ok, frm_ex, frm_st, thn_nx, thn_rt, thn_ex, thn_st, trO_ex, trO_nx, trO_rt, e_var, e_non, e_bl, e_int, e_str, e_glo, e_op1, e_op2, e_op3, e_cmp, e_cmp3, e_and, e_or, e_not, e_ite, e_tup, e_lst, e_dct0, e_set0, e_call, e_new, e_fld, e_lc, e_dc, e_isE, e_isV, e_atE, t_cmp, t_cmp3, t_and, t_or, t_not, t_ite, t_var, t_bl, t_op1, t_op2, t_call, t_fld, t_isE, t_isV, x_nil, x_cons, a_nil, a_ex, a_ec, r_e, r_rng1, r_rng2, s_expr, s_set, s_unp, s_seti, s_setf, s_ret, s_raise, s_ite, s_whl, s_for, s_tr, s_pass, ss_nil, ss_cons, getV, optV, List.getElem?_cons_zero, List.getElem?_cons_succ, List.set_cons_zero, List.set_cons_succ, startE, List.map_cons, List.map_nil, List.length_cons, List.length_nil, List.cons_append, List.nil_append, recv, sem1, sem2, optB, truthR, truth, seqL, isI, calm1, calm2, cfN_hot, cfN_m, cfN_call, cfN_glo, cfN_sub, cfN_sve, cfN_exn, Bool.false_and, Bool.true_and, Bool.and_true, Bool.and_false, Bool.or_true, Bool.true_or, Bool.or_false, Bool.false_or, Bool.not_true, Bool.not_false, if_true, if_false, Bool.false_eq_true, reduceIte, Option.map_some, Option.map_none, reduceCtorEq, ixD, atI_0, atI_1, atI_2, atI_3, atI_4, atI_5, atI_6, atI_7, atI_8, atI_9, atI_10, atI_11, atI_12, atI_nat', decide_true, decide_false, Bool.and_self, Option.isSome_some, Option.isSome_none, eqD_int, eqD_str, List.append_nil, stays_lst', stays_non', stays_tup', stays_str', stays_dic', wipeE, List.foldr_cons, List.foldr_nil, setV, mkL, mkD, items, lineN, Nat.reduceLeDiff,  List.reduceReplicate, Nat.reduceAdd, Nat.reduceSub, popB_ok bx2_1, set2_1, isTyV, tyOf, en, show decide (Ty.str = Ty.tuple) = false from rfl, show decide (Ty.str = Ty.bool) = false from rfl, inD, setV, bx2_0, keyD, h2, hg, h3', saddB_ok bx2_0 (by omega) h2, set2_0, h3]
                exact e
theorem isTree_ok {T : Tb} {f nm g g8 : Nat} (hf : T.fn f = some (Cm.is_tree nm g)) (hnm : T.fn nm = some (Cm.is_name g8)) (h8 : T.glo g8 = some (.int 8)) (hg : T.glo g = some (.int 12)) {n mc : Nat} (hn : 2 ≤ n) {h : Hb} {d : D} (hd : okd d) (hs : nodes d ≤ 1000000) :
    callN T n false mc f [.v d] h = .ok (.bl (isTr d)) h := by
  obtain ⟨n, rfl⟩ : ∃ k, n = k + 1 := ⟨n - 1, by omega⟩
  rw [callF hf rfl rfl rfl]
  obtain ⟨W, hW⟩ : ∃ W, W = whl (evT (cfN T n false h.length) (.var 2)) (evSs (cfN T n false h.length) (Cm.is_tree_b1 nm g)) := ⟨_, rfl⟩
  have key := isTree_while (n := n) (h := h) hnm h8 hg (by omega) d hW (nodesL [d]) [d] [] none (Nat.le_refl _) (by simpa [nodesL] using hs) (by simp) (by simpa using hd)
  simp only [List.reverse_singleton, List.flatMap_singleton] at key
  have e0 : evSs (cfN T n false h.length) (Cm.is_tree nm g).body (startE (Cm.is_tree nm g).ns [.v d]) h = thn (W [some (.v d), some (.v (.box h.length)), some (.v (.box (h.length + 1))), none] (h ++ [some (.set []), some (.lst [d])])) (evSs (cfN T n false h.length) (.cons (.ret (.bl true)) .nil)) .mk := by
    subst hW
    simp -implicitDefEqProofs -dsimp only [Cm.is_tree, Out.andThen_nx, Out.andThen_rt, Out.andThen_ex, Out.andThen_st, R.bind_ok, R.bind_ex, R.bind_st, R.nox_ok, fromR_ok, fromR_ex, fromR_st, bnd_ok, bnd_ex, bnd_st, frm_ok, frm_ex, frm_st, thn_nx, thn_rt, thn_ex, thn_st, trO_ex, trO_nx, trO_rt, e_var, e_non, e_bl, e_int, e_str, e_glo, e_op1, e_op2, e_op3, e_cmp, e_cmp3, e_and, e_or, e_not, e_ite, e_tup, e_lst, e_dct0, e_set0, e_call, e_new, e_fld, e_lc, e_dc, e_isE, e_isV, e_atE, t_cmp, t_cmp3, t_and, t_or, t_not, t_ite, t_var, t_bl, t_op1, t_op2, t_call, t_fld, t_isE, t_isV, x_nil, x_cons, a_nil, a_ex, a_ec, r_e, r_rng1, r_rng2, s_expr, s_set, s_unp, s_seti, s_setf, s_ret, s_raise, s_ite, s_whl, s_for, s_tr, s_pass, ss_nil, ss_cons, getV, optV, List.getElem?_cons_zero, List.getElem?_cons_succ, List.set_cons_zero, List.set_cons_succ, startE, List.map_cons, List.map_nil, List.length_cons, List.length_nil, List.cons_append, List.nil_append, recv, sem1, sem2, optB, truthR, truth, seqL, isI, calm1, calm2, cfN_hot, cfN_m, cfN_call, cfN_glo, cfN_sub, cfN_sve, cfN_exn, Bool.false_and, Bool.true_and, Bool.and_true, Bool.and_false, Bool.or_true, Bool.true_or, Bool.or_false, Bool.false_or, Bool.not_true, Bool.not_false, if_true, if_false, Bool.false_eq_true, reduceIte, Option.map_some, Option.map_none, reduceCtorEq, ixD, atI_0, atI_1, atI_2, atI_3, atI_4, atI_5, atI_6, atI_7, atI_8, atI_9, atI_10, atI_11, atI_12, atI_nat', decide_true, decide_false, Bool.and_self, Option.isSome_some, Option.isSome_none, eqD_int, eqD_str, List.append_nil, stays_lst', stays_non', stays_tup', stays_str', stays_dic', wipeE, List.foldr_cons, List.foldr_nil, setV, mkL, mkD, items, lineN, Nat.reduceLeDiff,  List.reduceReplicate, Nat.reduceAdd, Nat.reduceSub, app2, len1]
  rw [e0]
  rcases key with ⟨k, σ', h', e, tk⟩ | ⟨k, h', e, tk⟩
  · rw [e]
    simp -implicitDefEqProofs -dsimp only [Out.andThen_nx, Out.andThen_rt, Out.andThen_ex, Out.andThen_st, R.bind_ok, R.bind_ex, R.bind_st, R.nox_ok, fromR_ok, fromR_ex, fromR_st, bnd_ok, bnd_ex, bnd_st, frm_ok, frm_ex, frm_st, thn_nx, thn_rt, thn_ex, thn_st, trO_ex, trO_nx, trO_rt, e_var, e_non, e_bl, e_int, e_str, e_glo, e_op1, e_op2, e_op3, e_cmp, e_cmp3, e_and, e_or, e_not, e_ite, e_tup, e_lst, e_dct0, e_set0, e_call, e_new, e_fld, e_lc, e_dc, e_isE, e_isV, e_atE, t_cmp, t_cmp3, t_and, t_or, t_not, t_ite, t_var, t_bl, t_op1, t_op2, t_call, t_fld, t_isE, t_isV, x_nil, x_cons, a_nil, a_ex, a_ec, r_e, r_rng1, r_rng2, s_expr, s_set, s_unp, s_seti, s_setf, s_ret, s_raise, s_ite, s_whl, s_for, s_tr, s_pass, ss_nil, ss_cons, getV, optV, List.getElem?_cons_zero, List.getElem?_cons_succ, List.set_cons_zero, List.set_cons_succ, startE, List.map_cons, List.map_nil, List.length_cons, List.length_nil, List.cons_append, List.nil_append, recv, sem1, sem2, optB, truthR, truth, seqL, isI, calm1, calm2, cfN_hot, cfN_m, cfN_call, cfN_glo, cfN_sub, cfN_sve, cfN_exn, Bool.false_and, Bool.true_and, Bool.and_true, Bool.and_false, Bool.or_true, Bool.true_or, Bool.or_false, Bool.false_or, Bool.not_true, Bool.not_false, if_true, if_false, Bool.false_eq_true, reduceIte, Option.map_some, Option.map_none, reduceCtorEq, ixD, atI_0, atI_1, atI_2, atI_3, atI_4, atI_5, atI_6, atI_7, atI_8, atI_9, atI_10, atI_11, atI_12, atI_nat', decide_true, decide_false, Bool.and_self, Option.isSome_some, Option.isSome_none, eqD_int, eqD_str, List.append_nil, stays_lst', stays_non', stays_tup', stays_str', stays_dic', wipeE, List.foldr_cons, List.foldr_nil, setV, mkL, mkD, items, lineN, Nat.reduceLeDiff,  List.reduceReplicate, Nat.reduceAdd, Nat.reduceSub]
    rw [exit_rt rfl tk]
    rw [isTr, k]
  · rw [e]
    simp -implicitDefEqProofs -dsimp only [Out.andThen_nx, Out.andThen_rt, Out.andThen_ex, Out.andThen_st, R.bind_ok, R.bind_ex, R.bind_st, R.nox_ok, fromR_ok, fromR_ex, fromR_st, bnd_ok, bnd_ex, bnd_st, frm_ok, frm_ex, frm_st, thn_nx, thn_rt, thn_ex, thn_st, trO_ex, trO_nx, trO_rt, e_var, e_non, e_bl, e_int, e_str, e_glo, e_op1, e_op2, e_op3, e_cmp, e_cmp3, e_and, e_or, e_not, e_ite, e_tup, e_lst, e_dct0, e_set0, e_call, e_new, e_fld, e_lc, e_dc, e_isE, e_isV, e_atE, t_cmp, t_cmp3, t_and, t_or, t_not, t_ite, t_var, t_bl, t_op1, t_op2, t_call, t_fld, t_isE, t_isV, x_nil, x_cons, a_nil, a_ex, a_ec, r_e, r_rng1, r_rng2, s_expr, s_set, s_unp, s_seti, s_setf, s_ret, s_raise, s_ite, s_whl, s_for, s_tr, s_pass, ss_nil, ss_cons, getV, optV, List.getElem?_cons_zero, List.getElem?_cons_succ, List.set_cons_zero, List.set_cons_succ, startE, List.map_cons, List.map_nil, List.length_cons, List.length_nil, List.cons_append, List.nil_append, recv, sem1, sem2, optB, truthR, truth, seqL, isI, calm1, calm2, cfN_hot, cfN_m, cfN_call, cfN_glo, cfN_sub, cfN_sve, cfN_exn, Bool.false_and, Bool.true_and, Bool.and_true, Bool.and_false, Bool.or_true, Bool.true_or, Bool.or_false, Bool.false_or, Bool.not_true, Bool.not_false, if_true, if_false, Bool.false_eq_true, reduceIte, Option.map_some, Option.map_none, reduceCtorEq, ixD, atI_0, atI_1, atI_2, atI_3, atI_4, atI_5, atI_6, atI_7, atI_8, atI_9, atI_10, atI_11, atI_12, atI_nat', decide_true, decide_false, Bool.and_self, Option.isSome_some, Option.isSome_none, eqD_int, eqD_str, List.append_nil, stays_lst', stays_non', stays_tup', stays_str', stays_dic', wipeE, List.foldr_cons, List.foldr_nil, setV, mkL, mkD, items, lineN, Nat.reduceLeDiff,  List.reduceReplicate, Nat.reduceAdd, Nat.reduceSub]
    rw [exit_rt rfl tk]
    rw [isTr, k]
end Q
end FV

/-! The functions over trees. -/
namespace FV
namespace Q
open PySem

structure Trees (T : Tb) where
  iName : Nat
  iTree : Nat
  iParts : Nat
  g8 : Nat
  g12 : Nat
  xT : Nat
  nxT : Nat
  hName : T.fn iName = some (Cm.is_name g8)
  hTree : T.fn iTree = some (Cm.is_tree iName g12)
  hParts : T.fn iParts = some (Cm.parts_of iTree xT)
  h8 : T.glo g8 = some (.int 8)
  h12 : T.glo g12 = some (.int 12)
  hxT : T.exn xT = ([], nxT)

namespace Tr
def nodes : Tr → Nat
  | leaf _ => 1
  | fork a b => a.nodes + b.nodes + 1
theorem nodes_pos : ∀ t : Tr, 1 ≤ t.nodes
  | leaf _ => by simp [nodes]
  | fork a b => by simp [nodes]
theorem nodes_eq : ∀ t : Tr, t.nodes + 1 = 2 * t.paths.length
  | leaf _ => by simp [nodes, paths]
  | fork a b => by have := nodes_eq a; have := nodes_eq b; simp [nodes, paths]; omega
/-- the parts with their ways -/
def pts (w : Cs) : Tr → List (Cs × Tr)
  | leaf x => [(w, leaf x)]
  | fork a b => (w, fork a b) :: (pts (w ++ [48]) a ++ pts (w ++ [49]) b)
theorem pts_len : ∀ (t : Tr) (w : Cs), (t.pts w).length = t.nodes
  | leaf _, w => rfl
  | fork a b, w => by simp [pts, nodes, pts_len a, pts_len b]
end Tr
def partD (p : Cs × Tr) : D := .tup [.str p.1, p.2.val]
def strLeaves (t : Tr) : Prop := ∀ x ∈ t.leaves, ∃ s, x = .str s
def nodesS : List (Cs × Tr) → Nat
  | [] => 0
  | p :: r => p.2.nodes + nodesS r
theorem nodesS_app (a b : List (Cs × Tr)) : nodesS (a ++ b) = nodesS a + nodesS b := by
  induction a with
  | nil => simp [nodesS]
  | cons x a ih => simp [nodesS, ih]; omega
theorem nodesS_len (a : List (Cs × Tr)) : a.length ≤ nodesS a := by
  induction a with
  | nil => simp [nodesS]
  | cons x a ih => have := x.2.nodes_pos; simp [nodesS]; omega

theorem strLeaves_fork {a b : Tr} (h : strLeaves (.fork a b)) : strLeaves a ∧ strLeaves b := ⟨fun x hx => h x (by simp [Tr.leaves, hx]), fun x hx => h x (by simp [Tr.leaves, hx])⟩

theorem parts_while {T : Tb} {n : Nat} {h : Hb} (d0 : D) {W : Env → Hb → Out} (hW : W = whl (evT (cfN T n false h.length) (.var 2)) (evSs (cfN T n false h.length) Cm.parts_of_b1)) :
    ∀ (N : Nat) (ws : List (Cs × Tr)) (ps : List (Cs × Tr)) (v3 v4 v5 v6 : Option Sl), nodesS ws ≤ N → N + ps.length ≤ 100000 → (∀ w ∈ ws, strLeaves w.2 ∧ w.1.length + w.2.hgt ≤ 100000) →
      ∃ σ', W [some (.v d0), some (.v (.box h.length)), some (.v (.box (h.length + 1))), v3, v4, v5, v6] (h ++ [some (.lst (ps.map partD)), some (.lst (ws.map partD))]) = .nx σ' (h ++ [some (.lst ((ps ++ ws.reverse.flatMap fun p => p.2.pts p.1).map partD)), some (.lst [])]) ∧ getV σ' 1 = some (.box h.length) := by
  intro N
  induction N with
  | zero =>
    intro ws ps v3 v4 v5 v6 hN _ hw
    have : ws = [] := by
      cases ws with
      | nil => rfl
      | cons w r => have := w.2.nodes_pos; simp [nodesS] at hN; omega
    subst this
    rw [while_step hW]
    simp -implicitDefEqProofs -dsimp only [Out.andThen_nx, Out.andThen_rt, Out.andThen_ex, Out.andThen_st, R.bind_ok, R.bind_ex, R.bind_st, R.nox_ok, fromR_ok, fromR_ex, fromR_st, bnd_ok, bnd_ex, bnd_st, frm_ok, frm_ex, frm_st, thn_nx, thn_rt, thn_ex, thn_st, trO_ex, trO_nx, trO_rt, e_var, e_non, e_bl, e_int, e_str, e_glo, e_op1, e_op2, e_op3, e_cmp, e_cmp3, e_and, e_or, e_not, e_ite, e_tup, e_lst, e_dct0, e_set0, e_call, e_new, e_fld, e_lc, e_dc, e_isE, e_isV, e_atE, t_cmp, t_cmp3, t_and, t_or, t_not, t_ite, t_var, t_bl, t_op1, t_op2, t_call, t_fld, t_isE, t_isV, x_nil, x_cons, a_nil, a_ex, a_ec, r_e, r_rng1, r_rng2, s_expr, s_set, s_unp, s_seti, s_setf, s_ret, s_raise, s_ite, s_whl, s_for, s_tr, s_pass, ss_nil, ss_cons, getV, optV, List.getElem?_cons_zero, List.getElem?_cons_succ, List.set_cons_zero, List.set_cons_succ, startE, List.map_cons, List.map_nil, List.length_cons, List.length_nil, List.cons_append, List.nil_append, recv, sem1, sem2, optB, truthR, truth, seqL, isI, calm1, calm2, cfN_hot, cfN_m, cfN_call, cfN_glo, cfN_sub, cfN_sve, cfN_exn, Bool.false_and, Bool.true_and, Bool.and_true, Bool.and_false, Bool.or_true, Bool.true_or, Bool.or_false, Bool.false_or, Bool.not_true, Bool.not_false, if_true, if_false, Bool.false_eq_true, reduceIte, Option.map_some, Option.map_none, reduceCtorEq, ixD, atI_0, atI_1, atI_2, atI_3, atI_4, atI_5, atI_6, atI_7, atI_8, atI_9, atI_10, atI_11, atI_12, atI_nat', decide_true, decide_false, Bool.and_self, Option.isSome_some, Option.isSome_none, eqD_int, eqD_str, List.append_nil, stays_lst', stays_non', stays_tup', stays_str', stays_dic', wipeE, List.foldr_cons, List.foldr_nil, setV, mkL, mkD, items, lineN, Nat.reduceLeDiff,  List.reduceReplicate, Nat.reduceAdd, Nat.reduceSub, bx2_1, List.isEmpty_nil, List.reverse_nil, List.flatMap_nil, List.append_nil]
    exact ⟨_, rfl, rfl⟩
  | succ N ih =>
    intro ws ps v3 v4 v5 v6 hN hM hw
    rcases List.eq_nil_or_concat ws with rfl | ⟨w', p, rfl⟩
    · rw [while_step hW]
      simp -implicitDefEqProofs -dsimp only [Out.andThen_nx, Out.andThen_rt, Out.andThen_ex, Out.andThen_st, R.bind_ok, R.bind_ex, R.bind_st, R.nox_ok, fromR_ok, fromR_ex, fromR_st, bnd_ok, bnd_ex, bnd_st, frm_ok, frm_ex, frm_st, thn_nx, thn_rt, thn_ex, thn_st, trO_ex, trO_nx, trO_rt, e_var, e_non, e_bl, e_int, e_str, e_glo, e_op1, e_op2, e_op3, e_cmp, e_cmp3, e_and, e_or, e_not, e_ite, e_tup, e_lst, e_dct0, e_set0, e_call, e_new, e_fld, e_lc, e_dc, e_isE, e_isV, e_atE, t_cmp, t_cmp3, t_and, t_or, t_not, t_ite, t_var, t_bl, t_op1, t_op2, t_call, t_fld, t_isE, t_isV, x_nil, x_cons, a_nil, a_ex, a_ec, r_e, r_rng1, r_rng2, s_expr, s_set, s_unp, s_seti, s_setf, s_ret, s_raise, s_ite, s_whl, s_for, s_tr, s_pass, ss_nil, ss_cons, getV, optV, List.getElem?_cons_zero, List.getElem?_cons_succ, List.set_cons_zero, List.set_cons_succ, startE, List.map_cons, List.map_nil, List.length_cons, List.length_nil, List.cons_append, List.nil_append, recv, sem1, sem2, optB, truthR, truth, seqL, isI, calm1, calm2, cfN_hot, cfN_m, cfN_call, cfN_glo, cfN_sub, cfN_sve, cfN_exn, Bool.false_and, Bool.true_and, Bool.and_true, Bool.and_false, Bool.or_true, Bool.true_or, Bool.or_false, Bool.false_or, Bool.not_true, Bool.not_false, if_true, if_false, Bool.false_eq_true, reduceIte, Option.map_some, Option.map_none, reduceCtorEq, ixD, atI_0, atI_1, atI_2, atI_3, atI_4, atI_5, atI_6, atI_7, atI_8, atI_9, atI_10, atI_11, atI_12, atI_nat', decide_true, decide_false, Bool.and_self, Option.isSome_some, Option.isSome_none, eqD_int, eqD_str, List.append_nil, stays_lst', stays_non', stays_tup', stays_str', stays_dic', wipeE, List.foldr_cons, List.foldr_nil, setV, mkL, mkD, items, lineN, Nat.reduceLeDiff,  List.reduceReplicate, Nat.reduceAdd, Nat.reduceSub, bx2_1, List.isEmpty_nil, List.reverse_nil, List.flatMap_nil, List.append_nil]
      exact ⟨_, rfl, rfl⟩
    · rw [List.concat_eq_append] at *
      obtain ⟨w, t⟩ := p
      rw [nodesS_app] at hN
      simp only [nodesS, Nat.add_zero] at hN
      obtain ⟨hst, hln⟩ := hw (w, t) (by simp)
      have hw' : ∀ w ∈ w', strLeaves w.2 ∧ w.1.length + w.2.hgt ≤ 100000 := fun w h => hw w (by simp [h])
      have hlen := nodesS_len w'
      have hpos := t.nodes_pos
      rw [while_step hW]
      have ne : ∀ x : D, (w'.map partD ++ [x]).isEmpty = false := fun x => by simp
      have l0 : (ps.map partD).length < lineN := by unfold lineN; simp; omega
      rw [List.reverse_append, List.reverse_singleton, List.flatMap_append, List.flatMap_singleton, List.map_append, List.map_singleton, show partD (w, t) = D.tup [.str w, t.val] from rfl]
      cases t with
      | leaf x =>
        obtain ⟨s, rfl⟩ := hst x (by simp [Tr.leaves])
        obtain ⟨σ', e, g⟩ := ih w' (ps ++ [(w, .leaf (.str s))]) (some (.v (.str w))) (some (.v (.str s))) v5 v6 (by simp only [Tr.nodes] at hN; omega) (by simp; omega) hw'
        refine ⟨σ', ?_, g⟩
        have e' : (ps ++ [(w, Tr.leaf (.str s))]).map partD = ps.map partD ++ [.tup [.str w, .str s]] := by simp [partD, Tr.val]
        rw [e'] at e
        simp -implicitDefEqProofs -dsimp only [Cm.parts_of_b1, Out.andThen_nx, Out.andThen_rt, Out.andThen_ex, Out.andThen_st, R.bind_ok, R.bind_ex, R.bind_st, R.nox_ok, fromR_ok, fromR_ex, fromR_st, bnd_ok, bnd_ex, bnd_st, frm_ok, frm_ex, frm_st, thn_nx, thn_rt, thn_ex, thn_st, trO_ex, trO_nx, trO_rt, e_var, e_non, e_bl, e_int, e_str, e_glo, e_op1, e_op2, e_op3, e_cmp, e_cmp3, e_and, e_or, e_not, e_ite, e_tup, e_lst, e_dct0, e_set0, e_call, e_new, e_fld, e_lc, e_dc, e_isE, e_isV, e_atE, t_cmp, t_cmp3, t_and, t_or, t_not, t_ite, t_var, t_bl, t_op1, t_op2, t_call, t_fld, t_isE, t_isV, x_nil, x_cons, a_nil, a_ex, a_ec, r_e, r_rng1, r_rng2, s_expr, s_set, s_unp, s_seti, s_setf, s_ret, s_raise, s_ite, s_whl, s_for, s_tr, s_pass, ss_nil, ss_cons, getV, optV, List.getElem?_cons_zero, List.getElem?_cons_succ, List.set_cons_zero, List.set_cons_succ, startE, List.map_cons, List.map_nil, List.length_cons, List.length_nil, List.cons_append, List.nil_append, recv, sem1, sem2, optB, truthR, truth, seqL, isI, calm1, calm2, cfN_hot, cfN_m, cfN_call, cfN_glo, cfN_sub, cfN_sve, cfN_exn, Bool.false_and, Bool.true_and, Bool.and_true, Bool.and_false, Bool.or_true, Bool.true_or, Bool.or_false, Bool.false_or, Bool.not_true, Bool.not_false, if_true, if_false, Bool.false_eq_true, reduceIte, Option.map_some, Option.map_none, reduceCtorEq, ixD, atI_0, atI_1, atI_2, atI_3, atI_4, atI_5, atI_6, atI_7, atI_8, atI_9, atI_10, atI_11, atI_12, atI_nat', decide_true, decide_false, Bool.and_self, Option.isSome_some, Option.isSome_none, eqD_int, eqD_str, List.append_nil, stays_lst', stays_non', stays_tup', stays_str', stays_dic', wipeE, List.foldr_cons, List.foldr_nil, setV, mkL, mkD, items, lineN, Nat.reduceLeDiff,  List.reduceReplicate, Nat.reduceAdd, Nat.reduceSub, bx2_1, ne, popB_ok bx2_1, set2_1, bindT, seqT, List.zip_cons_cons, List.foldl_cons, List.foldl_nil, List.zip_nil_left, appB_ok bx2_0 (Nat.le_refl _) l0, set2_0, isTyV, tyOf, show decide (Ty.str = Ty.str) = true from rfl, Tr.val, bx2_0, Nat.reduceLeDiff, Nat.le_refl, e]
        simp [Tr.pts]
      | fork a b =>
        obtain ⟨ha, hb⟩ := strLeaves_fork hst
        simp only [Tr.nodes] at hN
        simp only [Tr.hgt] at hln
        have pa := a.nodes_pos
        have pb := b.nodes_pos
        obtain ⟨σ', e, g⟩ := ih (w' ++ [(w ++ [49], b)] ++ [(w ++ [48], a)]) (ps ++ [(w, .fork a b)]) (some (.v (.str w))) (some (.v (Tr.fork a b).val)) (some (.v a.val)) (some (.v b.val)) (by
          rw [nodesS_app, nodesS_app]; simp only [nodesS]; omega) (by simp; omega) (by
          intro q hq
          simp only [List.mem_append, List.mem_singleton] at hq
          rcases hq with (hq | rfl) | rfl
          · exact hw' q hq
          · exact ⟨hb, by simp; omega⟩
          · exact ⟨ha, by simp; omega⟩)
        refine ⟨σ', ?_, g⟩
        have e1 : (ps ++ [(w, Tr.fork a b)]).map partD = ps.map partD ++ [.tup [.str w, .tup [a.val, b.val]]] := by simp [partD, Tr.val]
        have e2 : (w' ++ [(w ++ [49], b)] ++ [(w ++ [48], a)]).map partD = w'.map partD ++ [.tup [.str (w ++ [49]), b.val]] ++ [.tup [.str (w ++ [48]), a.val]] := by simp [partD]
        rw [e1, e2] at e
        have l1 : (w'.map partD).length < lineN := by unfold lineN; simp; omega
        have l2 : (w'.map partD ++ [D.tup [.str (w ++ [49]), b.val]]).length < lineN := by unfold lineN; simp; omega
        have l3 : w.length + 1 ≤ 16777216 := by omega
        simp -implicitDefEqProofs -dsimp only [Cm.parts_of_b1, Out.andThen_nx, Out.andThen_rt, Out.andThen_ex, Out.andThen_st, R.bind_ok, R.bind_ex, R.bind_st, R.nox_ok, fromR_ok, fromR_ex, fromR_st, bnd_ok, bnd_ex, bnd_st, frm_ok, frm_ex, frm_st, thn_nx, thn_rt, thn_ex, thn_st, trO_ex, trO_nx, trO_rt, e_var, e_non, e_bl, e_int, e_str, e_glo, e_op1, e_op2, e_op3, e_cmp, e_cmp3, e_and, e_or, e_not, e_ite, e_tup, e_lst, e_dct0, e_set0, e_call, e_new, e_fld, e_lc, e_dc, e_isE, e_isV, e_atE, t_cmp, t_cmp3, t_and, t_or, t_not, t_ite, t_var, t_bl, t_op1, t_op2, t_call, t_fld, t_isE, t_isV, x_nil, x_cons, a_nil, a_ex, a_ec, r_e, r_rng1, r_rng2, s_expr, s_set, s_unp, s_seti, s_setf, s_ret, s_raise, s_ite, s_whl, s_for, s_tr, s_pass, ss_nil, ss_cons, getV, optV, List.getElem?_cons_zero, List.getElem?_cons_succ, List.set_cons_zero, List.set_cons_succ, startE, List.map_cons, List.map_nil, List.length_cons, List.length_nil, List.cons_append, List.nil_append, recv, sem1, sem2, optB, truthR, truth, seqL, isI, calm1, calm2, cfN_hot, cfN_m, cfN_call, cfN_glo, cfN_sub, cfN_sve, cfN_exn, Bool.false_and, Bool.true_and, Bool.and_true, Bool.and_false, Bool.or_true, Bool.true_or, Bool.or_false, Bool.false_or, Bool.not_true, Bool.not_false, if_true, if_false, Bool.false_eq_true, reduceIte, Option.map_some, Option.map_none, reduceCtorEq, ixD, atI_0, atI_1, atI_2, atI_3, atI_4, atI_5, atI_6, atI_7, atI_8, atI_9, atI_10, atI_11, atI_12, atI_nat', decide_true, decide_false, Bool.and_self, Option.isSome_some, Option.isSome_none, eqD_int, eqD_str, List.append_nil, stays_lst', stays_non', stays_tup', stays_str', stays_dic', wipeE, List.foldr_cons, List.foldr_nil, setV, mkL, mkD, items, lineN, Nat.reduceLeDiff,  List.reduceReplicate, Nat.reduceAdd, Nat.reduceSub, bx2_1, ne, popB_ok bx2_1, set2_1, bindT, seqT, List.zip_cons_cons, List.foldl_cons, List.foldl_nil, List.zip_nil_left, appB_ok bx2_0 (Nat.le_refl _) l0, set2_0, isTyV, tyOf, show decide (Ty.tuple = Ty.str) = false from rfl, show decide (Ty.tuple = Ty.bool) = false from rfl, Tr.val, bx2_0, Nat.reduceLeDiff, Nat.le_refl, l3, appB_ok bx2_1 (Nat.le_succ _) l1, appB_ok bx2_1 (Nat.le_succ _) l2] at e ⊢
        rw [e]
        simp [Tr.pts]
end Q
end FV

namespace FV
namespace Q
open PySem

theorem Tr.lv_val : ∀ (t : Tr), strLeaves t → lv t.val = t.leaves
  | .leaf x, h => by
    obtain ⟨s, rfl⟩ := h x (by simp [Tr.leaves])
    exact lv_leaf rfl
  | .fork a b, h => by
    obtain ⟨ha, hb⟩ := strLeaves_fork h
    rw [Tr.val, lv_pair, Tr.lv_val a ha, Tr.lv_val b hb, Tr.leaves]
theorem Tr.nodes_val : ∀ (t : Tr), strLeaves t → Q.nodes t.val = t.nodes
  | .leaf x, h => by
    obtain ⟨s, rfl⟩ := h x (by simp [Tr.leaves])
    rw [Tr.val, Q.nodes]
    · rfl
    · intro a b e; cases e
  | .fork a b, h => by
    obtain ⟨ha, hb⟩ := strLeaves_fork h
    rw [Tr.val, nodes_pair, Tr.nodes_val a ha, Tr.nodes_val b hb, Tr.nodes]
theorem goT_names : ∀ (ns : List Cs) (ks : List Kk), (∀ x ∈ ns, isNmC x = true) → ns.Nodup → (∀ x ∈ ns, Kk.s x ∉ ks) → ks.length + ns.length ≤ 12 → goT (ns.map .str) ks = true
  | [], ks, _, _, _, _ => rfl
  | s :: r, ks, h1, h2, h3, h4 => by
    have n := List.nodup_cons.1 h2
    simp only [List.length_cons] at h4
    simp only [List.map_cons, goT, h1 s (by simp), h3 s (by simp), show ¬ ks.length = 12 by omega]
    rw [goT_names r (ks ++ [Kk.s s]) (fun x hx => h1 x (by simp [hx])) n.2 (fun x hx hm => by
      simp only [List.mem_append, List.mem_singleton, Kk.s.injEq] at hm
      rcases hm with hm | rfl
      · exact h3 x (by simp [hx]) hm
      · exact n.1 hx) (by simp; omega)]
    rfl
theorem goT_only : ∀ (xs : List D) (ks : List Kk), ks.length ≤ 12 → goT xs ks = true → ∃ ns : List Cs, xs = ns.map .str ∧ (∀ x ∈ ns, isNmC x = true) ∧ ns.Nodup ∧ (∀ x ∈ ns, Kk.s x ∉ ks) ∧ ks.length + ns.length ≤ 12
  | [], ks, hk, _ => ⟨[], rfl, by simp, by simp, by simp, by simpa using hk⟩
  | .str s :: r, ks, hk, h => by
    simp only [goT, Bool.and_eq_true, Bool.not_eq_true', decide_eq_false_iff_not] at h
    obtain ⟨h1, h2, h3, h4⟩ := h
    obtain ⟨ns, rfl, a, b, c, d⟩ := goT_only r (ks ++ [.s s]) (by simp; omega) h4
    refine ⟨s :: ns, rfl, ?_, ?_, ?_, by simp at d ⊢; omega⟩
    · intro x hx
      simp only [List.mem_cons] at hx
      rcases hx with rfl | hx
      · exact h1
      · exact a x hx
    · refine List.nodup_cons.2 ⟨fun hm => c s hm (by simp), b⟩
    · intro x hx hm
      simp only [List.mem_cons] at hx
      rcases hx with rfl | hx
      · exact h2 hm
      · exact c x hx (by simp [hm])
  | .non :: r, ks, hk, h => by cases h
  | .bl _ :: r, ks, hk, h => by cases h
  | .int _ :: r, ks, hk, h => by cases h
  | .tup _ :: r, ks, hk, h => by cases h
  | .lst _ :: r, ks, hk, h => by cases h
  | .dic _ _ :: r, ks, hk, h => by cases h
  | .set _ :: r, ks, hk, h => by cases h
  | .ins _ _ _ :: r, ks, hk, h => by cases h
  | .box _ :: r, ks, hk, h => by cases h

/-- a tree with proper names -/
structure Good (t : Tr) (ns : List Cs) : Prop where
  lv : t.leaves = ns.map .str
  nm : ∀ x ∈ ns, isNmC x = true
  nd : ns.Nodup
  len : ns.length ≤ 12
namespace Good
variable {t : Tr} {ns : List Cs}
theorem str (g : Good t ns) : strLeaves t := fun x hx => by
  rw [g.lv] at hx
  obtain ⟨s, _, rfl⟩ := List.mem_map.1 hx
  exact ⟨s, rfl⟩
theorem isT (g : Good t ns) : isTr t.val = true := by
  unfold isTr
  rw [Tr.lv_val t g.str, g.lv]
  exact goT_names ns [] g.nm g.nd (by simp) (by simpa using g.len)
theorem plen (g : Good t ns) : t.paths.length = ns.length := by rw [t.len_eq, g.lv, List.length_map]
theorem small (g : Good t ns) : t.small := by
  have := g.plen
  have := g.len
  unfold Tr.small; omega
theorem bel (g : Good t ns) : belows 0 t.leaves = true := by
  rw [g.lv, belows_all]
  intro x hx
  obtain ⟨s, _, rfl⟩ := List.mem_map.1 hx
  rfl
theorem nodes (g : Good t ns) : Q.nodes t.val ≤ 1000000 := by
  have := Tr.nodes_val t g.str
  have := t.nodes_eq
  have := g.plen
  have := g.len
  omega
theorem okd (g : Good t ns) : Q.okd t.val := fun x hx => by
  rw [Tr.lv_val t g.str, g.lv] at hx
  obtain ⟨s, hs, rfl⟩ := List.mem_map.1 hx
  have := isNmC_iff.1 (g.nm s hs)
  simp only [tidy, decide_eq_true_eq]
  have := this.2.1
  omega
theorem hgt (g : Good t ns) : t.hgt < 12 := by
  have := t.hgt_lt
  have := g.plen
  have := g.len
  omega
end Good

theorem isTree_tree {T : Tb} (M : Trees T) {t : Tr} {ns : List Cs} (g : Good t ns) {n mc : Nat} (hn : 2 ≤ n) {h : Hb} : callN T n false mc M.iTree [.v t.val] h = .ok (.bl true) h := by
  rw [isTree_ok M.hTree M.hName M.h8 M.h12 hn g.okd g.nodes, g.isT]

theorem parts_ok {T : Tb} (M : Trees T) {t : Tr} {ns : List Cs} (g : Good t ns) {n mc : Nat} (hn : 3 ≤ n) {h : Hb} : callN T n false mc M.iParts [.v t.val] h = .ok (.lst ((t.pts []).map partD)) h := by
  obtain ⟨n, rfl⟩ : ∃ k, n = k + 1 := ⟨n - 1, by omega⟩
  rw [callF M.hParts rfl rfl rfl]
  obtain ⟨W, hW⟩ : ∃ W, W = whl (evT (cfN T n false h.length) (.var 2)) (evSs (cfN T n false h.length) Cm.parts_of_b1) := ⟨_, rfl⟩
  have h1 := t.nodes_eq
  have h2 := g.plen
  have h3 := g.len
  obtain ⟨σ', e, gv⟩ := parts_while (n := n) (h := h) t.val hW t.nodes [([], t)] [] none none none none (by simp [nodesS]) (by simp; omega) (by simp; exact ⟨g.str, by have := g.hgt; omega⟩)
  simp only [List.map_nil, List.map_cons, List.nil_append, List.reverse_singleton, List.flatMap_singleton] at e
  have et := isTree_tree M g (n := n) (mc := h.length) (h := h) (by omega)
  have e0 : evSs (cfN T n false h.length) (Cm.parts_of M.iTree M.xT).body (startE (Cm.parts_of M.iTree M.xT).ns [.v t.val]) h = thn (W [some (.v t.val), some (.v (.box h.length)), some (.v (.box (h.length + 1))), none, none, none, none] (h ++ [some (.lst []), some (.lst [partD ([], t)])])) (evSs (cfN T n false h.length) (.cons (.ret (.var 1)) .nil)) .mk := by
    subst hW
    simp -implicitDefEqProofs -dsimp only [Cm.parts_of, Out.andThen_nx, Out.andThen_rt, Out.andThen_ex, Out.andThen_st, R.bind_ok, R.bind_ex, R.bind_st, R.nox_ok, fromR_ok, fromR_ex, fromR_st, bnd_ok, bnd_ex, bnd_st, frm_ok, frm_ex, frm_st, thn_nx, thn_rt, thn_ex, thn_st, trO_ex, trO_nx, trO_rt, e_var, e_non, e_bl, e_int, e_str, e_glo, e_op1, e_op2, e_op3, e_cmp, e_cmp3, e_and, e_or, e_not, e_ite, e_tup, e_lst, e_dct0, e_set0, e_call, e_new, e_fld, e_lc, e_dc, e_isE, e_isV, e_atE, t_cmp, t_cmp3, t_and, t_or, t_not, t_ite, t_var, t_bl, t_op1, t_op2, t_call, t_fld, t_isE, t_isV, x_nil, x_cons, a_nil, a_ex, a_ec, r_e, r_rng1, r_rng2, s_expr, s_set, s_unp, s_seti, s_setf, s_ret, s_raise, s_ite, s_whl, s_for, s_tr, s_pass, ss_nil, ss_cons, getV, optV, List.getElem?_cons_zero, List.getElem?_cons_succ, List.set_cons_zero, List.set_cons_succ, startE, List.map_cons, List.map_nil, List.length_cons, List.length_nil, List.cons_append, List.nil_append, recv, sem1, sem2, optB, truthR, truth, seqL, isI, calm1, calm2, cfN_hot, cfN_m, cfN_call, cfN_glo, cfN_sub, cfN_sve, cfN_exn, Bool.false_and, Bool.true_and, Bool.and_true, Bool.and_false, Bool.or_true, Bool.true_or, Bool.or_false, Bool.false_or, Bool.not_true, Bool.not_false, if_true, if_false, Bool.false_eq_true, reduceIte, Option.map_some, Option.map_none, reduceCtorEq, ixD, atI_0, atI_1, atI_2, atI_3, atI_4, atI_5, atI_6, atI_7, atI_8, atI_9, atI_10, atI_11, atI_12, atI_nat', decide_true, decide_false, Bool.and_self, Option.isSome_some, Option.isSome_none, eqD_int, eqD_str, List.append_nil, stays_lst', stays_non', stays_tup', stays_str', stays_dic', wipeE, List.foldr_cons, List.foldr_nil, setV, mkL, mkD, items, lineN, Nat.reduceLeDiff,  List.reduceReplicate, Nat.reduceAdd, Nat.reduceSub, app2, len1, et]
    rfl
  rw [e0, e]
  simp only [thn_nx, ss_cons, s_ret, e_var, gv, frm_ok, optV, thn_rt]
  refine exit_rtL (Nat.le_refl _) bx2_0 ?_ (by simp)
  rw [belows_all]
  intro x hx
  obtain ⟨p, hp, rfl⟩ := List.mem_map.1 hx
  have : ∀ (t : Tr) (w : Cs), belows 0 t.leaves = true → ∀ p ∈ t.pts w, below 0 p.2.val = true := by
    intro t
    induction t with
    | leaf x => intro w hb p hp; simp only [Tr.pts, List.mem_singleton] at hp; subst hp; simpa [Tr.val, Tr.leaves, belows] using hb
    | fork a b iha ihb =>
      intro w hb p hp
      have hb' := belows_all.1 hb
      have hba : belows 0 a.leaves = true := belows_all.2 fun x hx => hb' x (by simp [Tr.leaves, hx])
      have hbb : belows 0 b.leaves = true := belows_all.2 fun x hx => hb' x (by simp [Tr.leaves, hx])
      simp only [Tr.pts, List.mem_cons, List.mem_append] at hp
      rcases hp with rfl | hp | hp
      · exact Tr.nb_val (.fork a b) hb
      · exact iha _ hba p hp
      · exact ihb _ hbb p hp
  simp [partD, below, belows, this t [] g.bel p hp]
theorem parts_no {T : Tb} (M : Trees T) {d : D} (hd : okd d) (hs : nodes d ≤ 1000000) (hf : isTr d = false) {n mc : Nat} (hn : 3 ≤ n) {h : Hb} : callN T n false mc M.iParts [.v d] h = .ex M.xT [] [] h := by
  obtain ⟨n, rfl⟩ : ∃ k, n = k + 1 := ⟨n - 1, by omega⟩
  rw [callF M.hParts rfl rfl rfl]
  have et := isTree_ok M.hTree M.hName M.h8 M.h12 (n := n) (mc := h.length) (h := h) (by omega) hd hs
  rw [hf] at et
  simp -implicitDefEqProofs -dsimp only [Cm.parts_of, Out.andThen_nx, Out.andThen_rt, Out.andThen_ex, Out.andThen_st, R.bind_ok, R.bind_ex, R.bind_st, R.nox_ok, fromR_ok, fromR_ex, fromR_st, bnd_ok, bnd_ex, bnd_st, frm_ok, frm_ex, frm_st, thn_nx, thn_rt, thn_ex, thn_st, trO_ex, trO_nx, trO_rt, e_var, e_non, e_bl, e_int, e_str, e_glo, e_op1, e_op2, e_op3, e_cmp, e_cmp3, e_and, e_or, e_not, e_ite, e_tup, e_lst, e_dct0, e_set0, e_call, e_new, e_fld, e_lc, e_dc, e_isE, e_isV, e_atE, t_cmp, t_cmp3, t_and, t_or, t_not, t_ite, t_var, t_bl, t_op1, t_op2, t_call, t_fld, t_isE, t_isV, x_nil, x_cons, a_nil, a_ex, a_ec, r_e, r_rng1, r_rng2, s_expr, s_set, s_unp, s_seti, s_setf, s_ret, s_raise, s_ite, s_whl, s_for, s_tr, s_pass, ss_nil, ss_cons, getV, optV, List.getElem?_cons_zero, List.getElem?_cons_succ, List.set_cons_zero, List.set_cons_succ, startE, List.map_cons, List.map_nil, List.length_cons, List.length_nil, List.cons_append, List.nil_append, recv, sem1, sem2, optB, truthR, truth, seqL, isI, calm1, calm2, cfN_hot, cfN_m, cfN_call, cfN_glo, cfN_sub, cfN_sve, cfN_exn, Bool.false_and, Bool.true_and, Bool.and_true, Bool.and_false, Bool.or_true, Bool.true_or, Bool.or_false, Bool.false_or, Bool.not_true, Bool.not_false, if_true, if_false, Bool.false_eq_true, reduceIte, Option.map_some, Option.map_none, reduceCtorEq, ixD, atI_0, atI_1, atI_2, atI_3, atI_4, atI_5, atI_6, atI_7, atI_8, atI_9, atI_10, atI_11, atI_12, atI_nat', decide_true, decide_false, Bool.and_self, Option.isSome_some, Option.isSome_none, eqD_int, eqD_str, List.append_nil, stays_lst', stays_non', stays_tup', stays_str', stays_dic', wipeE, List.foldr_cons, List.foldr_nil, setV, mkL, mkD, items, lineN, Nat.reduceLeDiff,  List.reduceReplicate, Nat.reduceAdd, Nat.reduceSub, et, M.hxT, or_true]
  exact exit_ex rfl (List.take_of_length_le (Nat.le_refl _))

/-! ### what the parts tell -/
def Tr.isLeaf : Tr → Bool
  | .leaf _ => true
  | .fork _ _ => false
theorem isLeaf_leaf (x : D) : (Tr.leaf x).isLeaf = true := rfl
theorem isLeaf_fork (a b : Tr) : (Tr.fork a b).isLeaf = false := rfl
theorem pts_leaves : ∀ (t : Tr) (w : Cs), ((t.pts w).filter fun p => p.2.isLeaf).map (fun p => (p.1, p.2.val)) = (t.paths.map (w ++ ·)).zip t.leaves
  | .leaf x, w => by simp [Tr.pts, List.filter_cons, isLeaf_leaf, Tr.paths, Tr.leaves, Tr.val]
  | .fork a b, w => by
    simp only [Tr.pts, List.filter_cons, isLeaf_fork, List.filter_append, List.map_append, Bool.false_eq_true, if_false, Tr.paths, Tr.leaves, pts_leaves a, pts_leaves b, List.map_map]
    rw [zip_app _ _ _ _ (by simp [Tr.len_eq])]
    congr 2
    · exact List.map_congr_left fun x _ => by simp
    · exact List.map_congr_left fun x _ => by simp
theorem pts_forks : ∀ (t : Tr) (w : Cs), ((t.pts w).filter fun p => !p.2.isLeaf).map (·.1) = t.fks.map (w ++ ·)
  | .leaf x, w => by simp [Tr.pts, isLeaf_leaf, Tr.fks]
  | .fork a b, w => by
    simp only [Tr.pts, List.filter_cons, isLeaf_fork, List.filter_append, List.map_append, Bool.not_false, if_true, Tr.fks, pts_forks a, pts_forks b, List.map_map, List.map_cons, List.append_nil]
    congr 2
    · exact List.map_congr_left fun x _ => by simp
    · exact List.map_congr_left fun x _ => by simp
theorem pts_hgt : ∀ (t : Tr) (w : Cs) (p : Cs × Tr), p ∈ t.pts w → p.1.length ≤ w.length + t.hgt
  | .leaf x, w, p, h => by simp [Tr.pts] at h; subst h; simp
  | .fork a b, w, p, h => by
    simp only [Tr.pts, List.mem_cons, List.mem_append] at h
    rcases h with rfl | h | h
    · simp
    · have := pts_hgt a _ p h; simp [Tr.hgt] at this ⊢; omega
    · have := pts_hgt b _ p h; simp [Tr.hgt] at this ⊢; omega
/-- the type of a part -/
theorem part_ty (h : Hb) {t : Tr} (s : strLeaves t) {w : Cs} {p : Cs × Tr} (hp : p ∈ t.pts w) : isTyV h p.2.val .str = some p.2.isLeaf := by
  have : ∀ (t : Tr) (w : Cs), strLeaves t → ∀ p ∈ t.pts w, isTyV h p.2.val .str = some p.2.isLeaf := by
    intro t
    induction t with
    | leaf x =>
      intro w s p hp
      simp only [Tr.pts, List.mem_singleton] at hp
      subst hp
      obtain ⟨s, rfl⟩ := s x (by simp [Tr.leaves])
      rfl
    | fork a b iha ihb =>
      intro w s p hp
      simp only [Tr.pts, List.mem_cons, List.mem_append] at hp
      rcases hp with rfl | hp | hp
      · rfl
      · exact iha _ (strLeaves_fork s).1 p hp
      · exact ihb _ (strLeaves_fork s).2 p hp
  exact this t w s p hp
/-- a comprehension over the parts -/
theorem lc_parts {i j : Nat} {σ : Env} {c : Env → Hb → R Bool} {e : Env → Hb → R D} (p : Cs × Tr → Bool) (g : Cs × Tr → D) {h : Hb} {xs : List (Cs × Tr)} (hn : xs.length ≤ lineN)
    (H : ∀ k ∈ xs, c ((σ.set i (some (.v (.str k.1)))).set j (some (.v k.2.val))) h = .ok (p k) h ∧ (p k = true → e ((σ.set i (some (.v (.str k.1)))).set j (some (.v k.2.val))) h = .ok (g k) h)) :
    lcGo [i, j] σ (fun _ => true) c e (xs.map partD) [] h = .ok ((xs.filter p).map g) h := by
  have gen : ∀ (xs : List (Cs × Tr)) (acc : List D), acc.length + xs.length ≤ lineN → (∀ k ∈ xs, c ((σ.set i (some (.v (.str k.1)))).set j (some (.v k.2.val))) h = .ok (p k) h ∧ (p k = true → e ((σ.set i (some (.v (.str k.1)))).set j (some (.v k.2.val))) h = .ok (g k) h)) → lcGo [i, j] σ (fun _ => true) c e (xs.map partD) acc h = .ok (acc ++ (xs.filter p).map g) h := by
    intro xs
    induction xs with
    | nil => intro acc _ _; simp [lcGo]
    | cons x r ih =>
      intro acc hl H
      have ⟨h1, h2⟩ := H x (by simp)
      have hr := fun k hk => H k (List.mem_cons_of_mem x hk)
      simp only [List.length_cons] at hl
      have bt : bindT h σ [i, j] (partD x) = some ((σ.set i (some (.v (.str x.1)))).set j (some (.v x.2.val))) := rfl
      simp only [List.map_cons, lcGo, if_true, bt, h1, R.nox_ok, R.bind_ok]
      cases hp : p x with
      | true =>
        simp only [if_true, h2 hp, R.nox_ok, R.bind_ok]
        rw [if_pos (by omega), ih _ (by simp; omega) hr]
        simp [hp]
      | false =>
        simp only [Bool.false_eq_true, if_false]
        rw [ih _ (by omega) hr]
        simp [hp]
  simpa using gen xs [] (by simpa using hn) H
theorem pts_line {t : Tr} {ns : List Cs} (g : Good t ns) (w : Cs) : (t.pts w).length ≤ lineN := by
  have h1 := t.nodes_eq
  have h2 := g.plen
  have h3 := g.len
  rw [Tr.pts_len]
  unfold lineN; omega

theorem leaf_ok {T : Tb} (M : Trees T) {f : Nat} (hf : T.fn f = some (Cm.leaf_names M.iParts)) {t : Tr} {ns : List Cs} (g : Good t ns) {n mc : Nat} (hn : 4 ≤ n) {h : Hb} : callN T n false mc f [.v t.val] h = .ok (.lst (ns.map .str)) h := by
  obtain ⟨n, rfl⟩ : ∃ k, n = k + 1 := ⟨n - 1, by omega⟩
  rw [callF hf rfl rfl rfl]
  have e1 := parts_ok M g (n := n) (mc := h.length) (h := h) (by omega)
  have e2 : lcGo [1, 2] [some (.v t.val), none, none] (fun _ => true) (evT (cfN T n false h.length) Cm.leaf_names_b1) (evE (cfN T n false h.length) Cm.leaf_names_b2) ((t.pts []).map partD) [] h = .ok (ns.map .str) h := by
    rw [lc_parts (fun p => p.2.isLeaf) (fun p => p.2.val) (pts_line g []) (by
      intro k hk
      refine ⟨?_, fun _ => ?_⟩
      · simp -implicitDefEqProofs -dsimp only [Cm.leaf_names_b1, Out.andThen_nx, Out.andThen_rt, Out.andThen_ex, Out.andThen_st, R.bind_ok, R.bind_ex, R.bind_st, R.nox_ok, fromR_ok, fromR_ex, fromR_st, bnd_ok, bnd_ex, bnd_st, frm_ok, frm_ex, frm_st, thn_nx, thn_rt, thn_ex, thn_st, trO_ex, trO_nx, trO_rt, e_var, e_non, e_bl, e_int, e_str, e_glo, e_op1, e_op2, e_op3, e_cmp, e_cmp3, e_and, e_or, e_not, e_ite, e_tup, e_lst, e_dct0, e_set0, e_call, e_new, e_fld, e_lc, e_dc, e_isE, e_isV, e_atE, t_cmp, t_cmp3, t_and, t_or, t_not, t_ite, t_var, t_bl, t_op1, t_op2, t_call, t_fld, t_isE, t_isV, x_nil, x_cons, a_nil, a_ex, a_ec, r_e, r_rng1, r_rng2, s_expr, s_set, s_unp, s_seti, s_setf, s_ret, s_raise, s_ite, s_whl, s_for, s_tr, s_pass, ss_nil, ss_cons, getV, optV, List.getElem?_cons_zero, List.getElem?_cons_succ, List.set_cons_zero, List.set_cons_succ, startE, List.map_cons, List.map_nil, List.length_cons, List.length_nil, List.cons_append, List.nil_append, recv, sem1, sem2, optB, truthR, truth, seqL, isI, calm1, calm2, cfN_hot, cfN_m, cfN_call, cfN_glo, cfN_sub, cfN_sve, cfN_exn, Bool.false_and, Bool.true_and, Bool.and_true, Bool.and_false, Bool.or_true, Bool.true_or, Bool.or_false, Bool.false_or, Bool.not_true, Bool.not_false, if_true, if_false, Bool.false_eq_true, reduceIte, Option.map_some, Option.map_none, reduceCtorEq, ixD, atI_0, atI_1, atI_2, atI_3, atI_4, atI_5, atI_6, atI_7, atI_8, atI_9, atI_10, atI_11, atI_12, atI_nat', decide_true, decide_false, Bool.and_self, Option.isSome_some, Option.isSome_none, eqD_int, eqD_str, List.append_nil, stays_lst', stays_non', stays_tup', stays_str', stays_dic', wipeE, List.foldr_cons, List.foldr_nil, setV, mkL, mkD, items, lineN, Nat.reduceLeDiff,  List.reduceReplicate, Nat.reduceAdd, Nat.reduceSub, part_ty h g.str hk]
      · simp -implicitDefEqProofs -dsimp only [Cm.leaf_names_b2, Out.andThen_nx, Out.andThen_rt, Out.andThen_ex, Out.andThen_st, R.bind_ok, R.bind_ex, R.bind_st, R.nox_ok, fromR_ok, fromR_ex, fromR_st, bnd_ok, bnd_ex, bnd_st, frm_ok, frm_ex, frm_st, thn_nx, thn_rt, thn_ex, thn_st, trO_ex, trO_nx, trO_rt, e_var, e_non, e_bl, e_int, e_str, e_glo, e_op1, e_op2, e_op3, e_cmp, e_cmp3, e_and, e_or, e_not, e_ite, e_tup, e_lst, e_dct0, e_set0, e_call, e_new, e_fld, e_lc, e_dc, e_isE, e_isV, e_atE, t_cmp, t_cmp3, t_and, t_or, t_not, t_ite, t_var, t_bl, t_op1, t_op2, t_call, t_fld, t_isE, t_isV, x_nil, x_cons, a_nil, a_ex, a_ec, r_e, r_rng1, r_rng2, s_expr, s_set, s_unp, s_seti, s_setf, s_ret, s_raise, s_ite, s_whl, s_for, s_tr, s_pass, ss_nil, ss_cons, getV, optV, List.getElem?_cons_zero, List.getElem?_cons_succ, List.set_cons_zero, List.set_cons_succ, startE, List.map_cons, List.map_nil, List.length_cons, List.length_nil, List.cons_append, List.nil_append, recv, sem1, sem2, optB, truthR, truth, seqL, isI, calm1, calm2, cfN_hot, cfN_m, cfN_call, cfN_glo, cfN_sub, cfN_sve, cfN_exn, Bool.false_and, Bool.true_and, Bool.and_true, Bool.and_false, Bool.or_true, Bool.true_or, Bool.or_false, Bool.false_or, Bool.not_true, Bool.not_false, if_true, if_false, Bool.false_eq_true, reduceIte, Option.map_some, Option.map_none, reduceCtorEq, ixD, atI_0, atI_1, atI_2, atI_3, atI_4, atI_5, atI_6, atI_7, atI_8, atI_9, atI_10, atI_11, atI_12, atI_nat', decide_true, decide_false, Bool.and_self, Option.isSome_some, Option.isSome_none, eqD_int, eqD_str, List.append_nil, stays_lst', stays_non', stays_tup', stays_str', stays_dic', wipeE, List.foldr_cons, List.foldr_nil, setV, mkL, mkD, items, lineN, Nat.reduceLeDiff,  List.reduceReplicate, Nat.reduceAdd, Nat.reduceSub])]
    have := congrArg (List.map Prod.snd) (pts_leaves t [])
    rw [List.map_map] at this
    have e : (Prod.snd ∘ fun p : Cs × Tr => (p.1, p.2.val)) = fun p => p.2.val := rfl
    rw [e, List.map_snd_zip (by simp [t.len_eq]), g.lv] at this
    rw [this]
  simp -implicitDefEqProofs -dsimp only [Cm.leaf_names, Out.andThen_nx, Out.andThen_rt, Out.andThen_ex, Out.andThen_st, R.bind_ok, R.bind_ex, R.bind_st, R.nox_ok, fromR_ok, fromR_ex, fromR_st, bnd_ok, bnd_ex, bnd_st, frm_ok, frm_ex, frm_st, thn_nx, thn_rt, thn_ex, thn_st, trO_ex, trO_nx, trO_rt, e_var, e_non, e_bl, e_int, e_str, e_glo, e_op1, e_op2, e_op3, e_cmp, e_cmp3, e_and, e_or, e_not, e_ite, e_tup, e_lst, e_dct0, e_set0, e_call, e_new, e_fld, e_lc, e_dc, e_isE, e_isV, e_atE, t_cmp, t_cmp3, t_and, t_or, t_not, t_ite, t_var, t_bl, t_op1, t_op2, t_call, t_fld, t_isE, t_isV, x_nil, x_cons, a_nil, a_ex, a_ec, r_e, r_rng1, r_rng2, s_expr, s_set, s_unp, s_seti, s_setf, s_ret, s_raise, s_ite, s_whl, s_for, s_tr, s_pass, ss_nil, ss_cons, getV, optV, List.getElem?_cons_zero, List.getElem?_cons_succ, List.set_cons_zero, List.set_cons_succ, startE, List.map_cons, List.map_nil, List.length_cons, List.length_nil, List.cons_append, List.nil_append, recv, sem1, sem2, optB, truthR, truth, seqL, isI, calm1, calm2, cfN_hot, cfN_m, cfN_call, cfN_glo, cfN_sub, cfN_sve, cfN_exn, Bool.false_and, Bool.true_and, Bool.and_true, Bool.and_false, Bool.or_true, Bool.true_or, Bool.or_false, Bool.false_or, Bool.not_true, Bool.not_false, if_true, if_false, Bool.false_eq_true, reduceIte, Option.map_some, Option.map_none, reduceCtorEq, ixD, atI_0, atI_1, atI_2, atI_3, atI_4, atI_5, atI_6, atI_7, atI_8, atI_9, atI_10, atI_11, atI_12, atI_nat', decide_true, decide_false, Bool.and_self, Option.isSome_some, Option.isSome_none, eqD_int, eqD_str, List.append_nil, stays_lst', stays_non', stays_tup', stays_str', stays_dic', wipeE, List.foldr_cons, List.foldr_nil, setV, mkL, mkD, items, lineN, Nat.reduceLeDiff,  List.reduceReplicate, Nat.reduceAdd, Nat.reduceSub, e1, e2]
  exact exit_rt (by simp [nb, below, belows_all]) (List.take_of_length_le (Nat.le_refl _))
theorem leaf_no {T : Tb} (M : Trees T) {f : Nat} (hf : T.fn f = some (Cm.leaf_names M.iParts)) {d : D} (hd : okd d) (hs : nodes d ≤ 1000000) (hF : isTr d = false) {n mc : Nat} (hn : 4 ≤ n) {h : Hb} : callN T n false mc f [.v d] h = .ex M.xT [] [] h := by
  obtain ⟨n, rfl⟩ : ∃ k, n = k + 1 := ⟨n - 1, by omega⟩
  rw [callF hf rfl rfl rfl]
  have e1 := parts_no M hd hs hF (n := n) (mc := h.length) (h := h) (by omega)
  simp -implicitDefEqProofs -dsimp only [Cm.leaf_names, Out.andThen_nx, Out.andThen_rt, Out.andThen_ex, Out.andThen_st, R.bind_ok, R.bind_ex, R.bind_st, R.nox_ok, fromR_ok, fromR_ex, fromR_st, bnd_ok, bnd_ex, bnd_st, frm_ok, frm_ex, frm_st, thn_nx, thn_rt, thn_ex, thn_st, trO_ex, trO_nx, trO_rt, e_var, e_non, e_bl, e_int, e_str, e_glo, e_op1, e_op2, e_op3, e_cmp, e_cmp3, e_and, e_or, e_not, e_ite, e_tup, e_lst, e_dct0, e_set0, e_call, e_new, e_fld, e_lc, e_dc, e_isE, e_isV, e_atE, t_cmp, t_cmp3, t_and, t_or, t_not, t_ite, t_var, t_bl, t_op1, t_op2, t_call, t_fld, t_isE, t_isV, x_nil, x_cons, a_nil, a_ex, a_ec, r_e, r_rng1, r_rng2, s_expr, s_set, s_unp, s_seti, s_setf, s_ret, s_raise, s_ite, s_whl, s_for, s_tr, s_pass, ss_nil, ss_cons, getV, optV, List.getElem?_cons_zero, List.getElem?_cons_succ, List.set_cons_zero, List.set_cons_succ, startE, List.map_cons, List.map_nil, List.length_cons, List.length_nil, List.cons_append, List.nil_append, recv, sem1, sem2, optB, truthR, truth, seqL, isI, calm1, calm2, cfN_hot, cfN_m, cfN_call, cfN_glo, cfN_sub, cfN_sve, cfN_exn, Bool.false_and, Bool.true_and, Bool.and_true, Bool.and_false, Bool.or_true, Bool.true_or, Bool.or_false, Bool.false_or, Bool.not_true, Bool.not_false, if_true, if_false, Bool.false_eq_true, reduceIte, Option.map_some, Option.map_none, reduceCtorEq, ixD, atI_0, atI_1, atI_2, atI_3, atI_4, atI_5, atI_6, atI_7, atI_8, atI_9, atI_10, atI_11, atI_12, atI_nat', decide_true, decide_false, Bool.and_self, Option.isSome_some, Option.isSome_none, eqD_int, eqD_str, List.append_nil, stays_lst', stays_non', stays_tup', stays_str', stays_dic', wipeE, List.foldr_cons, List.foldr_nil, setV, mkL, mkD, items, lineN, Nat.reduceLeDiff,  List.reduceReplicate, Nat.reduceAdd, Nat.reduceSub, e1]
  exact exit_ex rfl (List.take_of_length_le (Nat.le_refl _))
end Q
end FV

namespace FV
namespace Q
open PySem

theorem nodup_map {α β : Type} {f : α → β} (hf : ∀ a b, f a = f b → a = b) : ∀ {l : List α}, l.Nodup → (l.map f).Nodup
  | [], _ => by simp
  | a :: l, h => by
    have h' := List.nodup_cons.1 h
    refine List.nodup_cons.2 ⟨fun hm => ?_, nodup_map hf h'.2⟩
    obtain ⟨b, hb, e⟩ := List.mem_map.1 hm
    exact h'.1 (hf _ _ e ▸ hb)
theorem forks_of_ok {T : Tb} (M : Trees T) {f : Nat} (hf : T.fn f = some (Cm.forks_of M.iParts)) {t : Tr} {ns : List Cs} (g : Good t ns) {n mc : Nat} (hn : 4 ≤ n) {h : Hb} : callN T n false mc f [.v t.val] h = .ok (.lst (t.fks.map .str)) h := by
  obtain ⟨n, rfl⟩ : ∃ k, n = k + 1 := ⟨n - 1, by omega⟩
  rw [callF hf rfl rfl rfl]
  have e1 := parts_ok M g (n := n) (mc := h.length) (h := h) (by omega)
  have e2 : lcGo [1, 2] [some (.v t.val), none, none] (fun _ => true) (evT (cfN T n false h.length) Cm.forks_of_b1) (evE (cfN T n false h.length) Cm.forks_of_b2) ((t.pts []).map partD) [] h = .ok (t.fks.map .str) h := by
    rw [lc_parts (fun p => !p.2.isLeaf) (fun p => .str p.1) (pts_line g []) (by
      intro k hk
      refine ⟨?_, fun _ => ?_⟩
      · simp -implicitDefEqProofs -dsimp only [Cm.forks_of_b1, Out.andThen_nx, Out.andThen_rt, Out.andThen_ex, Out.andThen_st, R.bind_ok, R.bind_ex, R.bind_st, R.nox_ok, fromR_ok, fromR_ex, fromR_st, bnd_ok, bnd_ex, bnd_st, frm_ok, frm_ex, frm_st, thn_nx, thn_rt, thn_ex, thn_st, trO_ex, trO_nx, trO_rt, e_var, e_non, e_bl, e_int, e_str, e_glo, e_op1, e_op2, e_op3, e_cmp, e_cmp3, e_and, e_or, e_not, e_ite, e_tup, e_lst, e_dct0, e_set0, e_call, e_new, e_fld, e_lc, e_dc, e_isE, e_isV, e_atE, t_cmp, t_cmp3, t_and, t_or, t_not, t_ite, t_var, t_bl, t_op1, t_op2, t_call, t_fld, t_isE, t_isV, x_nil, x_cons, a_nil, a_ex, a_ec, r_e, r_rng1, r_rng2, s_expr, s_set, s_unp, s_seti, s_setf, s_ret, s_raise, s_ite, s_whl, s_for, s_tr, s_pass, ss_nil, ss_cons, getV, optV, List.getElem?_cons_zero, List.getElem?_cons_succ, List.set_cons_zero, List.set_cons_succ, startE, List.map_cons, List.map_nil, List.length_cons, List.length_nil, List.cons_append, List.nil_append, recv, sem1, sem2, optB, truthR, truth, seqL, isI, calm1, calm2, cfN_hot, cfN_m, cfN_call, cfN_glo, cfN_sub, cfN_sve, cfN_exn, Bool.false_and, Bool.true_and, Bool.and_true, Bool.and_false, Bool.or_true, Bool.true_or, Bool.or_false, Bool.false_or, Bool.not_true, Bool.not_false, if_true, if_false, Bool.false_eq_true, reduceIte, Option.map_some, Option.map_none, reduceCtorEq, ixD, atI_0, atI_1, atI_2, atI_3, atI_4, atI_5, atI_6, atI_7, atI_8, atI_9, atI_10, atI_11, atI_12, atI_nat', decide_true, decide_false, Bool.and_self, Option.isSome_some, Option.isSome_none, eqD_int, eqD_str, List.append_nil, stays_lst', stays_non', stays_tup', stays_str', stays_dic', wipeE, List.foldr_cons, List.foldr_nil, setV, mkL, mkD, items, lineN, Nat.reduceLeDiff,  List.reduceReplicate, Nat.reduceAdd, Nat.reduceSub, part_ty h g.str hk]
      · simp -implicitDefEqProofs -dsimp only [Cm.forks_of_b2, Out.andThen_nx, Out.andThen_rt, Out.andThen_ex, Out.andThen_st, R.bind_ok, R.bind_ex, R.bind_st, R.nox_ok, fromR_ok, fromR_ex, fromR_st, bnd_ok, bnd_ex, bnd_st, frm_ok, frm_ex, frm_st, thn_nx, thn_rt, thn_ex, thn_st, trO_ex, trO_nx, trO_rt, e_var, e_non, e_bl, e_int, e_str, e_glo, e_op1, e_op2, e_op3, e_cmp, e_cmp3, e_and, e_or, e_not, e_ite, e_tup, e_lst, e_dct0, e_set0, e_call, e_new, e_fld, e_lc, e_dc, e_isE, e_isV, e_atE, t_cmp, t_cmp3, t_and, t_or, t_not, t_ite, t_var, t_bl, t_op1, t_op2, t_call, t_fld, t_isE, t_isV, x_nil, x_cons, a_nil, a_ex, a_ec, r_e, r_rng1, r_rng2, s_expr, s_set, s_unp, s_seti, s_setf, s_ret, s_raise, s_ite, s_whl, s_for, s_tr, s_pass, ss_nil, ss_cons, getV, optV, List.getElem?_cons_zero, List.getElem?_cons_succ, List.set_cons_zero, List.set_cons_succ, startE, List.map_cons, List.map_nil, List.length_cons, List.length_nil, List.cons_append, List.nil_append, recv, sem1, sem2, optB, truthR, truth, seqL, isI, calm1, calm2, cfN_hot, cfN_m, cfN_call, cfN_glo, cfN_sub, cfN_sve, cfN_exn, Bool.false_and, Bool.true_and, Bool.and_true, Bool.and_false, Bool.or_true, Bool.true_or, Bool.or_false, Bool.false_or, Bool.not_true, Bool.not_false, if_true, if_false, Bool.false_eq_true, reduceIte, Option.map_some, Option.map_none, reduceCtorEq, ixD, atI_0, atI_1, atI_2, atI_3, atI_4, atI_5, atI_6, atI_7, atI_8, atI_9, atI_10, atI_11, atI_12, atI_nat', decide_true, decide_false, Bool.and_self, Option.isSome_some, Option.isSome_none, eqD_int, eqD_str, List.append_nil, stays_lst', stays_non', stays_tup', stays_str', stays_dic', wipeE, List.foldr_cons, List.foldr_nil, setV, mkL, mkD, items, lineN, Nat.reduceLeDiff,  List.reduceReplicate, Nat.reduceAdd, Nat.reduceSub])]
    have := congrArg (List.map D.str) (pts_forks t [])
    rw [List.map_map] at this
    have e : (fun p : Cs × Tr => D.str p.1) = D.str ∘ (·.1) := rfl
    rw [e, this]
    simp
  simp -implicitDefEqProofs -dsimp only [Cm.forks_of, Out.andThen_nx, Out.andThen_rt, Out.andThen_ex, Out.andThen_st, R.bind_ok, R.bind_ex, R.bind_st, R.nox_ok, fromR_ok, fromR_ex, fromR_st, bnd_ok, bnd_ex, bnd_st, frm_ok, frm_ex, frm_st, thn_nx, thn_rt, thn_ex, thn_st, trO_ex, trO_nx, trO_rt, e_var, e_non, e_bl, e_int, e_str, e_glo, e_op1, e_op2, e_op3, e_cmp, e_cmp3, e_and, e_or, e_not, e_ite, e_tup, e_lst, e_dct0, e_set0, e_call, e_new, e_fld, e_lc, e_dc, e_isE, e_isV, e_atE, t_cmp, t_cmp3, t_and, t_or, t_not, t_ite, t_var, t_bl, t_op1, t_op2, t_call, t_fld, t_isE, t_isV, x_nil, x_cons, a_nil, a_ex, a_ec, r_e, r_rng1, r_rng2, s_expr, s_set, s_unp, s_seti, s_setf, s_ret, s_raise, s_ite, s_whl, s_for, s_tr, s_pass, ss_nil, ss_cons, getV, optV, List.getElem?_cons_zero, List.getElem?_cons_succ, List.set_cons_zero, List.set_cons_succ, startE, List.map_cons, List.map_nil, List.length_cons, List.length_nil, List.cons_append, List.nil_append, recv, sem1, sem2, optB, truthR, truth, seqL, isI, calm1, calm2, cfN_hot, cfN_m, cfN_call, cfN_glo, cfN_sub, cfN_sve, cfN_exn, Bool.false_and, Bool.true_and, Bool.and_true, Bool.and_false, Bool.or_true, Bool.true_or, Bool.or_false, Bool.false_or, Bool.not_true, Bool.not_false, if_true, if_false, Bool.false_eq_true, reduceIte, Option.map_some, Option.map_none, reduceCtorEq, ixD, atI_0, atI_1, atI_2, atI_3, atI_4, atI_5, atI_6, atI_7, atI_8, atI_9, atI_10, atI_11, atI_12, atI_nat', decide_true, decide_false, Bool.and_self, Option.isSome_some, Option.isSome_none, eqD_int, eqD_str, List.append_nil, stays_lst', stays_non', stays_tup', stays_str', stays_dic', wipeE, List.foldr_cons, List.foldr_nil, setV, mkL, mkD, items, lineN, Nat.reduceLeDiff,  List.reduceReplicate, Nat.reduceAdd, Nat.reduceSub, e1, e2]
  exact exit_rt (by simp [nb, below, belows_all]) (List.take_of_length_le (Nat.le_refl _))
theorem forks_of_no {T : Tb} (M : Trees T) {f : Nat} (hf : T.fn f = some (Cm.forks_of M.iParts)) {d : D} (hd : okd d) (hs : nodes d ≤ 1000000) (hF : isTr d = false) {n mc : Nat} (hn : 4 ≤ n) {h : Hb} : callN T n false mc f [.v d] h = .ex M.xT [] [] h := by
  obtain ⟨n, rfl⟩ : ∃ k, n = k + 1 := ⟨n - 1, by omega⟩
  rw [callF hf rfl rfl rfl]
  have e1 := parts_no M hd hs hF (n := n) (mc := h.length) (h := h) (by omega)
  simp -implicitDefEqProofs -dsimp only [Cm.forks_of, Out.andThen_nx, Out.andThen_rt, Out.andThen_ex, Out.andThen_st, R.bind_ok, R.bind_ex, R.bind_st, R.nox_ok, fromR_ok, fromR_ex, fromR_st, bnd_ok, bnd_ex, bnd_st, frm_ok, frm_ex, frm_st, thn_nx, thn_rt, thn_ex, thn_st, trO_ex, trO_nx, trO_rt, e_var, e_non, e_bl, e_int, e_str, e_glo, e_op1, e_op2, e_op3, e_cmp, e_cmp3, e_and, e_or, e_not, e_ite, e_tup, e_lst, e_dct0, e_set0, e_call, e_new, e_fld, e_lc, e_dc, e_isE, e_isV, e_atE, t_cmp, t_cmp3, t_and, t_or, t_not, t_ite, t_var, t_bl, t_op1, t_op2, t_call, t_fld, t_isE, t_isV, x_nil, x_cons, a_nil, a_ex, a_ec, r_e, r_rng1, r_rng2, s_expr, s_set, s_unp, s_seti, s_setf, s_ret, s_raise, s_ite, s_whl, s_for, s_tr, s_pass, ss_nil, ss_cons, getV, optV, List.getElem?_cons_zero, List.getElem?_cons_succ, List.set_cons_zero, List.set_cons_succ, startE, List.map_cons, List.map_nil, List.length_cons, List.length_nil, List.cons_append, List.nil_append, recv, sem1, sem2, optB, truthR, truth, seqL, isI, calm1, calm2, cfN_hot, cfN_m, cfN_call, cfN_glo, cfN_sub, cfN_sve, cfN_exn, Bool.false_and, Bool.true_and, Bool.and_true, Bool.and_false, Bool.or_true, Bool.true_or, Bool.or_false, Bool.false_or, Bool.not_true, Bool.not_false, if_true, if_false, Bool.false_eq_true, reduceIte, Option.map_some, Option.map_none, reduceCtorEq, ixD, atI_0, atI_1, atI_2, atI_3, atI_4, atI_5, atI_6, atI_7, atI_8, atI_9, atI_10, atI_11, atI_12, atI_nat', decide_true, decide_false, Bool.and_self, Option.isSome_some, Option.isSome_none, eqD_int, eqD_str, List.append_nil, stays_lst', stays_non', stays_tup', stays_str', stays_dic', wipeE, List.foldr_cons, List.foldr_nil, setV, mkL, mkD, items, lineN, Nat.reduceLeDiff,  List.reduceReplicate, Nat.reduceAdd, Nat.reduceSub, e1]
  exact exit_ex rfl (List.take_of_length_le (Nat.le_refl _))

theorem intsD_map (l : List Int) : intsD (l.map .int) = some l := by
  induction l with
  | nil => rfl
  | cons b l ih => simp [intsD, ih]
theorem maxI_eq {l : List Int} {m : Int} (h0 : 0 < l.length) (hm : m ∈ l) (hx : ∀ x ∈ l, x ≤ m) : maxI l = m := by
  obtain ⟨a, b⟩ := maxI_mem h0
  have := hx _ a
  have := b m hm
  omega
theorem height_ok {T : Tb} (M : Trees T) {f : Nat} (hf : T.fn f = some (Cm.height_of M.iParts)) {t : Tr} {ns : List Cs} (g : Good t ns) {n mc : Nat} (hn : 4 ≤ n) {h : Hb} : callN T n false mc f [.v t.val] h = .ok (.int t.hgt) h := by
  obtain ⟨n, rfl⟩ : ∃ k, n = k + 1 := ⟨n - 1, by omega⟩
  rw [callF hf rfl rfl rfl]
  have e1 := parts_ok M g (n := n) (mc := h.length) (h := h) (by omega)
  have hh := g.hgt
  have e2 : lcGo [1, 2] [some (.v t.val), none, none] (fun _ => true) (evT (cfN T n false h.length) (.bl true)) (evE (cfN T n false h.length) Cm.height_of_b1) ((t.pts []).map partD) [] h = .ok (((t.pts []).map fun p => (p.1.length : Int)).map .int) h := by
    rw [lc_parts (fun _ => true) (fun p => .int p.1.length) (pts_line g []) (by
      intro k hk
      refine ⟨t_bl, fun _ => ?_⟩
      have : k.1.length ≤ 16777216 := by have := pts_hgt t [] k hk; simp at this; omega
      simp -implicitDefEqProofs -dsimp only [Cm.height_of_b1, Out.andThen_nx, Out.andThen_rt, Out.andThen_ex, Out.andThen_st, R.bind_ok, R.bind_ex, R.bind_st, R.nox_ok, fromR_ok, fromR_ex, fromR_st, bnd_ok, bnd_ex, bnd_st, frm_ok, frm_ex, frm_st, thn_nx, thn_rt, thn_ex, thn_st, trO_ex, trO_nx, trO_rt, e_var, e_non, e_bl, e_int, e_str, e_glo, e_op1, e_op2, e_op3, e_cmp, e_cmp3, e_and, e_or, e_not, e_ite, e_tup, e_lst, e_dct0, e_set0, e_call, e_new, e_fld, e_lc, e_dc, e_isE, e_isV, e_atE, t_cmp, t_cmp3, t_and, t_or, t_not, t_ite, t_var, t_bl, t_op1, t_op2, t_call, t_fld, t_isE, t_isV, x_nil, x_cons, a_nil, a_ex, a_ec, r_e, r_rng1, r_rng2, s_expr, s_set, s_unp, s_seti, s_setf, s_ret, s_raise, s_ite, s_whl, s_for, s_tr, s_pass, ss_nil, ss_cons, getV, optV, List.getElem?_cons_zero, List.getElem?_cons_succ, List.set_cons_zero, List.set_cons_succ, startE, List.map_cons, List.map_nil, List.length_cons, List.length_nil, List.cons_append, List.nil_append, recv, sem1, sem2, optB, truthR, truth, seqL, isI, calm1, calm2, cfN_hot, cfN_m, cfN_call, cfN_glo, cfN_sub, cfN_sve, cfN_exn, Bool.false_and, Bool.true_and, Bool.and_true, Bool.and_false, Bool.or_true, Bool.true_or, Bool.or_false, Bool.false_or, Bool.not_true, Bool.not_false, if_true, if_false, Bool.false_eq_true, reduceIte, Option.map_some, Option.map_none, reduceCtorEq, ixD, atI_0, atI_1, atI_2, atI_3, atI_4, atI_5, atI_6, atI_7, atI_8, atI_9, atI_10, atI_11, atI_12, atI_nat', decide_true, decide_false, Bool.and_self, Option.isSome_some, Option.isSome_none, eqD_int, eqD_str, List.append_nil, stays_lst', stays_non', stays_tup', stays_str', stays_dic', wipeE, List.foldr_cons, List.foldr_nil, setV, mkL, mkD, items, lineN, Nat.reduceLeDiff,  List.reduceReplicate, Nat.reduceAdd, Nat.reduceSub, this])]
    rw [List.filter_eq_self.2 (fun _ _ => rfl), List.map_map]
    rfl
  have e3 : maxI ((t.pts []).map fun p => (p.1.length : Int)) = t.hgt := by
    refine maxI_eq (by rw [List.length_map, Tr.pts_len]; exact t.nodes_pos) ?_ ?_
    · obtain ⟨p, hp, lp⟩ := t.hgt_path
      have : p ∈ ((t.pts []).filter fun p => p.2.isLeaf).map (·.1) := by
        have := congrArg (List.map Prod.fst) (pts_leaves t [])
        rw [List.map_map, List.map_fst_zip (by simp [t.len_eq])] at this
        have e : (Prod.fst ∘ fun p : Cs × Tr => (p.1, p.2.val)) = (·.1) := rfl
        rw [e] at this
        rw [this]
        simpa using hp
      obtain ⟨q, hq, rfl⟩ := List.mem_map.1 this
      exact List.mem_map.2 ⟨q, (List.mem_filter.1 hq).1, by rw [lp]⟩
    · intro x hx
      obtain ⟨q, hq, rfl⟩ := List.mem_map.1 hx
      have := pts_hgt t [] q hq
      simp at this
      omega
  have e4 : 0 < ((t.pts []).map fun p => (p.1.length : Int)).length := by rw [List.length_map, Tr.pts_len]; exact t.nodes_pos
  simp -implicitDefEqProofs -dsimp only [Cm.height_of, Out.andThen_nx, Out.andThen_rt, Out.andThen_ex, Out.andThen_st, R.bind_ok, R.bind_ex, R.bind_st, R.nox_ok, fromR_ok, fromR_ex, fromR_st, bnd_ok, bnd_ex, bnd_st, frm_ok, frm_ex, frm_st, thn_nx, thn_rt, thn_ex, thn_st, trO_ex, trO_nx, trO_rt, e_var, e_non, e_bl, e_int, e_str, e_glo, e_op1, e_op2, e_op3, e_cmp, e_cmp3, e_and, e_or, e_not, e_ite, e_tup, e_lst, e_dct0, e_set0, e_call, e_new, e_fld, e_lc, e_dc, e_isE, e_isV, e_atE, t_cmp, t_cmp3, t_and, t_or, t_not, t_ite, t_var, t_bl, t_op1, t_op2, t_call, t_fld, t_isE, t_isV, x_nil, x_cons, a_nil, a_ex, a_ec, r_e, r_rng1, r_rng2, s_expr, s_set, s_unp, s_seti, s_setf, s_ret, s_raise, s_ite, s_whl, s_for, s_tr, s_pass, ss_nil, ss_cons, getV, optV, List.getElem?_cons_zero, List.getElem?_cons_succ, List.set_cons_zero, List.set_cons_succ, startE, List.map_cons, List.map_nil, List.length_cons, List.length_nil, List.cons_append, List.nil_append, recv, sem1, sem2, optB, truthR, truth, seqL, isI, calm1, calm2, cfN_hot, cfN_m, cfN_call, cfN_glo, cfN_sub, cfN_sve, cfN_exn, Bool.false_and, Bool.true_and, Bool.and_true, Bool.and_false, Bool.or_true, Bool.true_or, Bool.or_false, Bool.false_or, Bool.not_true, Bool.not_false, if_true, if_false, Bool.false_eq_true, reduceIte, Option.map_some, Option.map_none, reduceCtorEq, ixD, atI_0, atI_1, atI_2, atI_3, atI_4, atI_5, atI_6, atI_7, atI_8, atI_9, atI_10, atI_11, atI_12, atI_nat', decide_true, decide_false, Bool.and_self, Option.isSome_some, Option.isSome_none, eqD_int, eqD_str, List.append_nil, stays_lst', stays_non', stays_tup', stays_str', stays_dic', wipeE, List.foldr_cons, List.foldr_nil, setV, mkL, mkD, items, lineN, Nat.reduceLeDiff,  List.reduceReplicate, Nat.reduceAdd, Nat.reduceSub, e1, e2, Option.bind_some, intsD_map, e4, e3]
  exact exit_rt rfl (List.take_of_length_le (Nat.le_refl _))
theorem height_no {T : Tb} (M : Trees T) {f : Nat} (hf : T.fn f = some (Cm.height_of M.iParts)) {d : D} (hd : okd d) (hs : nodes d ≤ 1000000) (hF : isTr d = false) {n mc : Nat} (hn : 4 ≤ n) {h : Hb} : callN T n false mc f [.v d] h = .ex M.xT [] [] h := by
  obtain ⟨n, rfl⟩ : ∃ k, n = k + 1 := ⟨n - 1, by omega⟩
  rw [callF hf rfl rfl rfl]
  have e1 := parts_no M hd hs hF (n := n) (mc := h.length) (h := h) (by omega)
  simp -implicitDefEqProofs -dsimp only [Cm.height_of, Out.andThen_nx, Out.andThen_rt, Out.andThen_ex, Out.andThen_st, R.bind_ok, R.bind_ex, R.bind_st, R.nox_ok, fromR_ok, fromR_ex, fromR_st, bnd_ok, bnd_ex, bnd_st, frm_ok, frm_ex, frm_st, thn_nx, thn_rt, thn_ex, thn_st, trO_ex, trO_nx, trO_rt, e_var, e_non, e_bl, e_int, e_str, e_glo, e_op1, e_op2, e_op3, e_cmp, e_cmp3, e_and, e_or, e_not, e_ite, e_tup, e_lst, e_dct0, e_set0, e_call, e_new, e_fld, e_lc, e_dc, e_isE, e_isV, e_atE, t_cmp, t_cmp3, t_and, t_or, t_not, t_ite, t_var, t_bl, t_op1, t_op2, t_call, t_fld, t_isE, t_isV, x_nil, x_cons, a_nil, a_ex, a_ec, r_e, r_rng1, r_rng2, s_expr, s_set, s_unp, s_seti, s_setf, s_ret, s_raise, s_ite, s_whl, s_for, s_tr, s_pass, ss_nil, ss_cons, getV, optV, List.getElem?_cons_zero, List.getElem?_cons_succ, List.set_cons_zero, List.set_cons_succ, startE, List.map_cons, List.map_nil, List.length_cons, List.length_nil, List.cons_append, List.nil_append, recv, sem1, sem2, optB, truthR, truth, seqL, isI, calm1, calm2, cfN_hot, cfN_m, cfN_call, cfN_glo, cfN_sub, cfN_sve, cfN_exn, Bool.false_and, Bool.true_and, Bool.and_true, Bool.and_false, Bool.or_true, Bool.true_or, Bool.or_false, Bool.false_or, Bool.not_true, Bool.not_false, if_true, if_false, Bool.false_eq_true, reduceIte, Option.map_some, Option.map_none, reduceCtorEq, ixD, atI_0, atI_1, atI_2, atI_3, atI_4, atI_5, atI_6, atI_7, atI_8, atI_9, atI_10, atI_11, atI_12, atI_nat', decide_true, decide_false, Bool.and_self, Option.isSome_some, Option.isSome_none, eqD_int, eqD_str, List.append_nil, stays_lst', stays_non', stays_tup', stays_str', stays_dic', wipeE, List.foldr_cons, List.foldr_nil, setV, mkL, mkD, items, lineN, Nat.reduceLeDiff,  List.reduceReplicate, Nat.reduceAdd, Nat.reduceSub, e1]
  exact exit_ex rfl (List.take_of_length_le (Nat.le_refl _))

/-! ### the dict of the ways -/
theorem dc_parts {i j : Nat} {σ : Env} {c : Env → Hb → R Bool} {ke e : Env → Hb → R D} (p : Cs × Tr → Bool) (kf : Cs × Tr → Cs) (g : Cs × Tr → D) {h : Hb} :
    ∀ (xs : List (Cs × Tr)) (ks : List Kk) (vs : List D), ks.length + xs.length ≤ lineN → ks.length = vs.length →
      (∀ k ∈ xs, c ((σ.set i (some (.v (.str k.1)))).set j (some (.v k.2.val))) h = .ok (p k) h ∧ (p k = true → ke ((σ.set i (some (.v (.str k.1)))).set j (some (.v k.2.val))) h = .ok (.str (kf k)) h ∧ e ((σ.set i (some (.v (.str k.1)))).set j (some (.v k.2.val))) h = .ok (g k) h)) →
      (ks ++ (xs.filter p).map fun k => Kk.s (kf k)).Nodup →
      dcGo [i, j] σ (fun _ => true) c ke e (xs.map partD) ks vs h = .ok (ks ++ (xs.filter p).map (fun k => Kk.s (kf k)), vs ++ (xs.filter p).map g) h
  | [], ks, vs, _, _, _, _ => by simp [dcGo]
  | x :: r, ks, vs, hl, hkv, H, nd => by
    have ⟨h1, h2⟩ := H x (by simp)
    have hr := fun k hk => H k (List.mem_cons_of_mem x hk)
    simp only [List.length_cons] at hl
    have bt : bindT h σ [i, j] (partD x) = some ((σ.set i (some (.v (.str x.1)))).set j (some (.v x.2.val))) := rfl
    simp only [List.map_cons, dcGo, if_true, bt, h1, R.nox_ok, R.bind_ok]
    cases hp : p x with
    | true =>
      obtain ⟨h3, h4⟩ := h2 hp
      simp only [List.filter_cons, hp, if_true, List.map_cons] at nd
      have hn : Kk.s (kf x) ∉ ks := fun hm => (List.nodup_append.1 nd).2.2 _ hm _ (by simp) rfl
      simp only [if_true, h3, h4, R.nox_ok, R.bind_ok, keyD]
      rw [if_pos (by omega)]
      simp only [putD, hn, if_false]
      rw [dc_parts p kf g r _ _ (by simp; omega) (by simp [hkv]) hr (by simpa using nd)]
      simp [hp]
    | false =>
      simp only [List.filter_cons, hp, Bool.false_eq_true, if_false] at nd ⊢
      exact dc_parts p kf g r ks vs (by omega) hkv hr nd

theorem zip_names {t : Tr} {ns : List Cs} (g : Good t ns) : ((t.pts []).filter fun p => p.2.isLeaf).map (fun p => (p.1, p.2.val)) = t.paths.zip (ns.map .str) := by
  have := pts_leaves t []
  rw [g.lv] at this
  simpa using this
def nameOf : D → Cs
  | .str s => s
  | _ => []
theorem waysD {t : Tr} {ns : List Cs} (g : Good t ns) : ((t.pts []).filter fun p => p.2.isLeaf).map (fun p => Kk.s (nameOf p.2.val)) = ns.map .s ∧ ((t.pts []).filter fun p => p.2.isLeaf).map (fun p => D.str p.1) = t.paths.map .str := by
  have z := zip_names g
  constructor
  · have := congrArg (List.map fun p : Cs × D => Kk.s (nameOf p.2)) z
    rw [List.map_map] at this
    rw [show (fun p : Cs × Tr => Kk.s (nameOf p.2.val)) = (fun p : Cs × D => Kk.s (nameOf p.2)) ∘ fun p : Cs × Tr => (p.1, p.2.val) from rfl, this]
    have e : (fun p : Cs × D => Kk.s (nameOf p.2)) = (fun d => Kk.s (nameOf d)) ∘ Prod.snd := rfl
    rw [e, ← List.map_map, List.map_snd_zip (by simp [g.plen]), List.map_map]
    rfl
  · have := congrArg (List.map fun p : Cs × D => D.str p.1) z
    rw [List.map_map] at this
    rw [show (fun p : Cs × Tr => D.str p.1) = (fun p : Cs × D => D.str p.1) ∘ fun p : Cs × Tr => (p.1, p.2.val) from rfl, this]
    have e : (fun p : Cs × D => D.str p.1) = D.str ∘ Prod.fst := rfl
    rw [e, ← List.map_map, List.map_fst_zip (by simp [g.plen])]
theorem ways_of_ok {T : Tb} (M : Trees T) {f : Nat} (hf : T.fn f = some (Cm.ways_of M.iParts)) {t : Tr} {ns : List Cs} (g : Good t ns) {n mc : Nat} (hn : 4 ≤ n) {h : Hb} : callN T n false mc f [.v t.val] h = .ok (.dic (ns.map .s) (t.paths.map .str)) h := by
  obtain ⟨n, rfl⟩ : ∃ k, n = k + 1 := ⟨n - 1, by omega⟩
  rw [callF hf rfl rfl rfl]
  have e1 := parts_ok M g (n := n) (mc := h.length) (h := h) (by omega)
  obtain ⟨w1, w2⟩ := waysD g
  have hleaf : ∀ (t : Tr) (w : Cs), strLeaves t → ∀ k ∈ t.pts w, k.2.isLeaf = true → k.2.val = .str (nameOf k.2.val) := by
    intro t
    induction t with
    | leaf x =>
      intro w s p hp hk
      simp only [Tr.pts, List.mem_singleton] at hp
      subst hp
      obtain ⟨s, rfl⟩ := s x (by simp [Tr.leaves])
      rfl
    | fork a b iha ihb =>
      intro w s p hp hk
      simp only [Tr.pts, List.mem_cons, List.mem_append] at hp
      rcases hp with rfl | hp | hp
      · cases hk
      · exact iha _ (strLeaves_fork s).1 p hp hk
      · exact ihb _ (strLeaves_fork s).2 p hp hk
  have e2 : dcGo [1, 2] [some (.v t.val), none, none] (fun _ => true) (evT (cfN T n false h.length) Cm.ways_of_b1) (evE (cfN T n false h.length) Cm.ways_of_b2) (evE (cfN T n false h.length) Cm.ways_of_b3) ((t.pts []).map partD) [] [] h = .ok (ns.map .s, t.paths.map .str) h := by
    rw [dc_parts (fun p => p.2.isLeaf) (fun p => nameOf p.2.val) (fun p => .str p.1) (t.pts []) [] [] (by simpa using pts_line g []) rfl (by
      intro k hk
      refine ⟨?_, fun hl => ⟨?_, ?_⟩⟩
      · simp -implicitDefEqProofs -dsimp only [Cm.ways_of_b1, Out.andThen_nx, Out.andThen_rt, Out.andThen_ex, Out.andThen_st, R.bind_ok, R.bind_ex, R.bind_st, R.nox_ok, fromR_ok, fromR_ex, fromR_st, bnd_ok, bnd_ex, bnd_st, frm_ok, frm_ex, frm_st, thn_nx, thn_rt, thn_ex, thn_st, trO_ex, trO_nx, trO_rt, e_var, e_non, e_bl, e_int, e_str, e_glo, e_op1, e_op2, e_op3, e_cmp, e_cmp3, e_and, e_or, e_not, e_ite, e_tup, e_lst, e_dct0, e_set0, e_call, e_new, e_fld, e_lc, e_dc, e_isE, e_isV, e_atE, t_cmp, t_cmp3, t_and, t_or, t_not, t_ite, t_var, t_bl, t_op1, t_op2, t_call, t_fld, t_isE, t_isV, x_nil, x_cons, a_nil, a_ex, a_ec, r_e, r_rng1, r_rng2, s_expr, s_set, s_unp, s_seti, s_setf, s_ret, s_raise, s_ite, s_whl, s_for, s_tr, s_pass, ss_nil, ss_cons, getV, optV, List.getElem?_cons_zero, List.getElem?_cons_succ, List.set_cons_zero, List.set_cons_succ, startE, List.map_cons, List.map_nil, List.length_cons, List.length_nil, List.cons_append, List.nil_append, recv, sem1, sem2, optB, truthR, truth, seqL, isI, calm1, calm2, cfN_hot, cfN_m, cfN_call, cfN_glo, cfN_sub, cfN_sve, cfN_exn, Bool.false_and, Bool.true_and, Bool.and_true, Bool.and_false, Bool.or_true, Bool.true_or, Bool.or_false, Bool.false_or, Bool.not_true, Bool.not_false, if_true, if_false, Bool.false_eq_true, reduceIte, Option.map_some, Option.map_none, reduceCtorEq, ixD, atI_0, atI_1, atI_2, atI_3, atI_4, atI_5, atI_6, atI_7, atI_8, atI_9, atI_10, atI_11, atI_12, atI_nat', decide_true, decide_false, Bool.and_self, Option.isSome_some, Option.isSome_none, eqD_int, eqD_str, List.append_nil, stays_lst', stays_non', stays_tup', stays_str', stays_dic', wipeE, List.foldr_cons, List.foldr_nil, setV, mkL, mkD, items, lineN, Nat.reduceLeDiff,  List.reduceReplicate, Nat.reduceAdd, Nat.reduceSub, part_ty h g.str hk]
      · simp -implicitDefEqProofs -dsimp only [Cm.ways_of_b2, Out.andThen_nx, Out.andThen_rt, Out.andThen_ex, Out.andThen_st, R.bind_ok, R.bind_ex, R.bind_st, R.nox_ok, fromR_ok, fromR_ex, fromR_st, bnd_ok, bnd_ex, bnd_st, frm_ok, frm_ex, frm_st, thn_nx, thn_rt, thn_ex, thn_st, trO_ex, trO_nx, trO_rt, e_var, e_non, e_bl, e_int, e_str, e_glo, e_op1, e_op2, e_op3, e_cmp, e_cmp3, e_and, e_or, e_not, e_ite, e_tup, e_lst, e_dct0, e_set0, e_call, e_new, e_fld, e_lc, e_dc, e_isE, e_isV, e_atE, t_cmp, t_cmp3, t_and, t_or, t_not, t_ite, t_var, t_bl, t_op1, t_op2, t_call, t_fld, t_isE, t_isV, x_nil, x_cons, a_nil, a_ex, a_ec, r_e, r_rng1, r_rng2, s_expr, s_set, s_unp, s_seti, s_setf, s_ret, s_raise, s_ite, s_whl, s_for, s_tr, s_pass, ss_nil, ss_cons, getV, optV, List.getElem?_cons_zero, List.getElem?_cons_succ, List.set_cons_zero, List.set_cons_succ, startE, List.map_cons, List.map_nil, List.length_cons, List.length_nil, List.cons_append, List.nil_append, recv, sem1, sem2, optB, truthR, truth, seqL, isI, calm1, calm2, cfN_hot, cfN_m, cfN_call, cfN_glo, cfN_sub, cfN_sve, cfN_exn, Bool.false_and, Bool.true_and, Bool.and_true, Bool.and_false, Bool.or_true, Bool.true_or, Bool.or_false, Bool.false_or, Bool.not_true, Bool.not_false, if_true, if_false, Bool.false_eq_true, reduceIte, Option.map_some, Option.map_none, reduceCtorEq, ixD, atI_0, atI_1, atI_2, atI_3, atI_4, atI_5, atI_6, atI_7, atI_8, atI_9, atI_10, atI_11, atI_12, atI_nat', decide_true, decide_false, Bool.and_self, Option.isSome_some, Option.isSome_none, eqD_int, eqD_str, List.append_nil, stays_lst', stays_non', stays_tup', stays_str', stays_dic', wipeE, List.foldr_cons, List.foldr_nil, setV, mkL, mkD, items, lineN, Nat.reduceLeDiff,  List.reduceReplicate, Nat.reduceAdd, Nat.reduceSub]
        rw [← hleaf t [] g.str k hk hl]
      · simp -implicitDefEqProofs -dsimp only [Cm.ways_of_b3, Out.andThen_nx, Out.andThen_rt, Out.andThen_ex, Out.andThen_st, R.bind_ok, R.bind_ex, R.bind_st, R.nox_ok, fromR_ok, fromR_ex, fromR_st, bnd_ok, bnd_ex, bnd_st, frm_ok, frm_ex, frm_st, thn_nx, thn_rt, thn_ex, thn_st, trO_ex, trO_nx, trO_rt, e_var, e_non, e_bl, e_int, e_str, e_glo, e_op1, e_op2, e_op3, e_cmp, e_cmp3, e_and, e_or, e_not, e_ite, e_tup, e_lst, e_dct0, e_set0, e_call, e_new, e_fld, e_lc, e_dc, e_isE, e_isV, e_atE, t_cmp, t_cmp3, t_and, t_or, t_not, t_ite, t_var, t_bl, t_op1, t_op2, t_call, t_fld, t_isE, t_isV, x_nil, x_cons, a_nil, a_ex, a_ec, r_e, r_rng1, r_rng2, s_expr, s_set, s_unp, s_seti, s_setf, s_ret, s_raise, s_ite, s_whl, s_for, s_tr, s_pass, ss_nil, ss_cons, getV, optV, List.getElem?_cons_zero, List.getElem?_cons_succ, List.set_cons_zero, List.set_cons_succ, startE, List.map_cons, List.map_nil, List.length_cons, List.length_nil, List.cons_append, List.nil_append, recv, sem1, sem2, optB, truthR, truth, seqL, isI, calm1, calm2, cfN_hot, cfN_m, cfN_call, cfN_glo, cfN_sub, cfN_sve, cfN_exn, Bool.false_and, Bool.true_and, Bool.and_true, Bool.and_false, Bool.or_true, Bool.true_or, Bool.or_false, Bool.false_or, Bool.not_true, Bool.not_false, if_true, if_false, Bool.false_eq_true, reduceIte, Option.map_some, Option.map_none, reduceCtorEq, ixD, atI_0, atI_1, atI_2, atI_3, atI_4, atI_5, atI_6, atI_7, atI_8, atI_9, atI_10, atI_11, atI_12, atI_nat', decide_true, decide_false, Bool.and_self, Option.isSome_some, Option.isSome_none, eqD_int, eqD_str, List.append_nil, stays_lst', stays_non', stays_tup', stays_str', stays_dic', wipeE, List.foldr_cons, List.foldr_nil, setV, mkL, mkD, items, lineN, Nat.reduceLeDiff,  List.reduceReplicate, Nat.reduceAdd, Nat.reduceSub]) (by
      rw [List.nil_append, w1]
      exact nodup_map (fun a b e => by cases e; rfl) g.nd)]
    rw [w1, w2]
    rfl
  simp -implicitDefEqProofs -dsimp only [Cm.ways_of, Out.andThen_nx, Out.andThen_rt, Out.andThen_ex, Out.andThen_st, R.bind_ok, R.bind_ex, R.bind_st, R.nox_ok, fromR_ok, fromR_ex, fromR_st, bnd_ok, bnd_ex, bnd_st, frm_ok, frm_ex, frm_st, thn_nx, thn_rt, thn_ex, thn_st, trO_ex, trO_nx, trO_rt, e_var, e_non, e_bl, e_int, e_str, e_glo, e_op1, e_op2, e_op3, e_cmp, e_cmp3, e_and, e_or, e_not, e_ite, e_tup, e_lst, e_dct0, e_set0, e_call, e_new, e_fld, e_lc, e_dc, e_isE, e_isV, e_atE, t_cmp, t_cmp3, t_and, t_or, t_not, t_ite, t_var, t_bl, t_op1, t_op2, t_call, t_fld, t_isE, t_isV, x_nil, x_cons, a_nil, a_ex, a_ec, r_e, r_rng1, r_rng2, s_expr, s_set, s_unp, s_seti, s_setf, s_ret, s_raise, s_ite, s_whl, s_for, s_tr, s_pass, ss_nil, ss_cons, getV, optV, List.getElem?_cons_zero, List.getElem?_cons_succ, List.set_cons_zero, List.set_cons_succ, startE, List.map_cons, List.map_nil, List.length_cons, List.length_nil, List.cons_append, List.nil_append, recv, sem1, sem2, optB, truthR, truth, seqL, isI, calm1, calm2, cfN_hot, cfN_m, cfN_call, cfN_glo, cfN_sub, cfN_sve, cfN_exn, Bool.false_and, Bool.true_and, Bool.and_true, Bool.and_false, Bool.or_true, Bool.true_or, Bool.or_false, Bool.false_or, Bool.not_true, Bool.not_false, if_true, if_false, Bool.false_eq_true, reduceIte, Option.map_some, Option.map_none, reduceCtorEq, ixD, atI_0, atI_1, atI_2, atI_3, atI_4, atI_5, atI_6, atI_7, atI_8, atI_9, atI_10, atI_11, atI_12, atI_nat', decide_true, decide_false, Bool.and_self, Option.isSome_some, Option.isSome_none, eqD_int, eqD_str, List.append_nil, stays_lst', stays_non', stays_tup', stays_str', stays_dic', wipeE, List.foldr_cons, List.foldr_nil, setV, mkL, mkD, items, lineN, Nat.reduceLeDiff,  List.reduceReplicate, Nat.reduceAdd, Nat.reduceSub, e1, e2]
  exact exit_rt (by simp [nb, below, belows_all]) (List.take_of_length_le (Nat.le_refl _))
theorem ways_of_no {T : Tb} (M : Trees T) {f : Nat} (hf : T.fn f = some (Cm.ways_of M.iParts)) {d : D} (hd : okd d) (hs : nodes d ≤ 1000000) (hF : isTr d = false) {n mc : Nat} (hn : 4 ≤ n) {h : Hb} : callN T n false mc f [.v d] h = .ex M.xT [] [] h := by
  obtain ⟨n, rfl⟩ : ∃ k, n = k + 1 := ⟨n - 1, by omega⟩
  rw [callF hf rfl rfl rfl]
  have e1 := parts_no M hd hs hF (n := n) (mc := h.length) (h := h) (by omega)
  simp -implicitDefEqProofs -dsimp only [Cm.ways_of, Out.andThen_nx, Out.andThen_rt, Out.andThen_ex, Out.andThen_st, R.bind_ok, R.bind_ex, R.bind_st, R.nox_ok, fromR_ok, fromR_ex, fromR_st, bnd_ok, bnd_ex, bnd_st, frm_ok, frm_ex, frm_st, thn_nx, thn_rt, thn_ex, thn_st, trO_ex, trO_nx, trO_rt, e_var, e_non, e_bl, e_int, e_str, e_glo, e_op1, e_op2, e_op3, e_cmp, e_cmp3, e_and, e_or, e_not, e_ite, e_tup, e_lst, e_dct0, e_set0, e_call, e_new, e_fld, e_lc, e_dc, e_isE, e_isV, e_atE, t_cmp, t_cmp3, t_and, t_or, t_not, t_ite, t_var, t_bl, t_op1, t_op2, t_call, t_fld, t_isE, t_isV, x_nil, x_cons, a_nil, a_ex, a_ec, r_e, r_rng1, r_rng2, s_expr, s_set, s_unp, s_seti, s_setf, s_ret, s_raise, s_ite, s_whl, s_for, s_tr, s_pass, ss_nil, ss_cons, getV, optV, List.getElem?_cons_zero, List.getElem?_cons_succ, List.set_cons_zero, List.set_cons_succ, startE, List.map_cons, List.map_nil, List.length_cons, List.length_nil, List.cons_append, List.nil_append, recv, sem1, sem2, optB, truthR, truth, seqL, isI, calm1, calm2, cfN_hot, cfN_m, cfN_call, cfN_glo, cfN_sub, cfN_sve, cfN_exn, Bool.false_and, Bool.true_and, Bool.and_true, Bool.and_false, Bool.or_true, Bool.true_or, Bool.or_false, Bool.false_or, Bool.not_true, Bool.not_false, if_true, if_false, Bool.false_eq_true, reduceIte, Option.map_some, Option.map_none, reduceCtorEq, ixD, atI_0, atI_1, atI_2, atI_3, atI_4, atI_5, atI_6, atI_7, atI_8, atI_9, atI_10, atI_11, atI_12, atI_nat', decide_true, decide_false, Bool.and_self, Option.isSome_some, Option.isSome_none, eqD_int, eqD_str, List.append_nil, stays_lst', stays_non', stays_tup', stays_str', stays_dic', wipeE, List.foldr_cons, List.foldr_nil, setV, mkL, mkD, items, lineN, Nat.reduceLeDiff,  List.reduceReplicate, Nat.reduceAdd, Nat.reduceSub, e1]
  exact exit_ex rfl (List.take_of_length_le (Nat.le_refl _))
end Q
end FV

namespace FV
namespace Q
open PySem

theorem getD_at : ∀ {ns ps : List Cs} {k : Nat} {x p : Cs}, ns.Nodup → ns[k]? = some x → ps[k]? = some p → getD (ns.map .s) (ps.map .str) (.s x) = some (.str p)
  | [], _, k, x, p, _, h, _ => by simp at h
  | _ :: _, [], k, x, p, _, _, h => by simp at h
  | n :: ns, q :: ps, 0, x, p, nd, h1, h2 => by
    simp only [List.getElem?_cons_zero, Option.some.injEq] at h1 h2
    subst h1 h2
    simp [getD]
  | n :: ns, q :: ps, k + 1, x, p, nd, h1, h2 => by
    simp only [List.getElem?_cons_succ] at h1 h2
    have nd' := List.nodup_cons.1 nd
    have hne : n ≠ x := fun e => by subst e; exact nd'.1 (List.mem_of_getElem? h1)
    simp only [List.map_cons, getD, Kk.s.injEq, hne, if_false]
    exact getD_at nd'.2 h1 h2
theorem dKeys (ns : List Cs) : (ns.map Kk.s).map dKey = ns.map .str := by simp [dKey]
theorem dicV_dic (h : Hb) (ks : List Kk) (vs : List D) : dicV h (.dic ks vs) = some (ks, vs) := rfl

section
variable {T : Tb} (M : Trees T) {fw f fk fc : Nat} {xW nW xF nF : Nat}

theorem way_of_ok (hw : T.fn fw = some (Cm.ways_of M.iParts)) (hf : T.fn f = some (Cm.way_of fw xW)) {t : Tr} {ns : List Cs} (g : Good t ns) {k : Nat} {x p : Cs} (hk : ns[k]? = some x) (hp : t.paths[k]? = some p) {n mc : Nat} (hn : 5 ≤ n) {h : Hb} :
    callN T n false mc f [.v t.val, .v (.str x)] h = .ok (.str p) h := by
  obtain ⟨n, rfl⟩ : ∃ k, n = k + 1 := ⟨n - 1, by omega⟩
  rw [callF hf rfl rfl rfl]
  have e1 := ways_of_ok M hw g (n := n) (mc := h.length) (h := h) (by omega)
  have hm : x ∈ ns := List.mem_of_getElem? hk
  simp -implicitDefEqProofs -dsimp only [Cm.way_of, Out.andThen_nx, Out.andThen_rt, Out.andThen_ex, Out.andThen_st, R.bind_ok, R.bind_ex, R.bind_st, R.nox_ok, fromR_ok, fromR_ex, fromR_st, bnd_ok, bnd_ex, bnd_st, frm_ok, frm_ex, frm_st, thn_nx, thn_rt, thn_ex, thn_st, trO_ex, trO_nx, trO_rt, e_var, e_non, e_bl, e_int, e_str, e_glo, e_op1, e_op2, e_op3, e_cmp, e_cmp3, e_and, e_or, e_not, e_ite, e_tup, e_lst, e_dct0, e_set0, e_call, e_new, e_fld, e_lc, e_dc, e_isE, e_isV, e_atE, t_cmp, t_cmp3, t_and, t_or, t_not, t_ite, t_var, t_bl, t_op1, t_op2, t_call, t_fld, t_isE, t_isV, x_nil, x_cons, a_nil, a_ex, a_ec, r_e, r_rng1, r_rng2, s_expr, s_set, s_unp, s_seti, s_setf, s_ret, s_raise, s_ite, s_whl, s_for, s_tr, s_pass, ss_nil, ss_cons, getV, optV, List.getElem?_cons_zero, List.getElem?_cons_succ, List.set_cons_zero, List.set_cons_succ, startE, List.map_cons, List.map_nil, List.length_cons, List.length_nil, List.cons_append, List.nil_append, recv, sem1, sem2, optB, truthR, truth, seqL, isI, calm1, calm2, cfN_hot, cfN_m, cfN_call, cfN_glo, cfN_sub, cfN_sve, cfN_exn, Bool.false_and, Bool.true_and, Bool.and_true, Bool.and_false, Bool.or_true, Bool.true_or, Bool.or_false, Bool.false_or, Bool.not_true, Bool.not_false, if_true, if_false, Bool.false_eq_true, reduceIte, Option.map_some, Option.map_none, reduceCtorEq, ixD, atI_0, atI_1, atI_2, atI_3, atI_4, atI_5, atI_6, atI_7, atI_8, atI_9, atI_10, atI_11, atI_12, atI_nat', decide_true, decide_false, Bool.and_self, Option.isSome_some, Option.isSome_none, eqD_int, eqD_str, List.append_nil, stays_lst', stays_non', stays_tup', stays_str', stays_dic', wipeE, List.foldr_cons, List.foldr_nil, setV, mkL, mkD, items, lineN, Nat.reduceLeDiff,  List.reduceReplicate, Nat.reduceAdd, Nat.reduceSub, e1, dicV_dic, dKeys, inD_strs, hm, getD_at g.nd hk hp]
  exact exit_rt rfl (List.take_of_length_le (Nat.le_refl _))
theorem way_of_unk (hw : T.fn fw = some (Cm.ways_of M.iParts)) (hf : T.fn f = some (Cm.way_of fw xW)) (hx : T.exn xW = ([nW], 1)) {t : Tr} {ns : List Cs} (g : Good t ns) {x : Cs} (hm : x ∉ ns) {n mc : Nat} (hn : 5 ≤ n) {h : Hb} :
    callN T n false mc f [.v t.val, .v (.str x)] h = .ex xW [nW] [.str x] h := by
  obtain ⟨n, rfl⟩ : ∃ k, n = k + 1 := ⟨n - 1, by omega⟩
  rw [callF hf rfl rfl rfl]
  have e1 := ways_of_ok M hw g (n := n) (mc := h.length) (h := h) (by omega)
  simp -implicitDefEqProofs -dsimp only [Cm.way_of, Out.andThen_nx, Out.andThen_rt, Out.andThen_ex, Out.andThen_st, R.bind_ok, R.bind_ex, R.bind_st, R.nox_ok, fromR_ok, fromR_ex, fromR_st, bnd_ok, bnd_ex, bnd_st, frm_ok, frm_ex, frm_st, thn_nx, thn_rt, thn_ex, thn_st, trO_ex, trO_nx, trO_rt, e_var, e_non, e_bl, e_int, e_str, e_glo, e_op1, e_op2, e_op3, e_cmp, e_cmp3, e_and, e_or, e_not, e_ite, e_tup, e_lst, e_dct0, e_set0, e_call, e_new, e_fld, e_lc, e_dc, e_isE, e_isV, e_atE, t_cmp, t_cmp3, t_and, t_or, t_not, t_ite, t_var, t_bl, t_op1, t_op2, t_call, t_fld, t_isE, t_isV, x_nil, x_cons, a_nil, a_ex, a_ec, r_e, r_rng1, r_rng2, s_expr, s_set, s_unp, s_seti, s_setf, s_ret, s_raise, s_ite, s_whl, s_for, s_tr, s_pass, ss_nil, ss_cons, getV, optV, List.getElem?_cons_zero, List.getElem?_cons_succ, List.set_cons_zero, List.set_cons_succ, startE, List.map_cons, List.map_nil, List.length_cons, List.length_nil, List.cons_append, List.nil_append, recv, sem1, sem2, optB, truthR, truth, seqL, isI, calm1, calm2, cfN_hot, cfN_m, cfN_call, cfN_glo, cfN_sub, cfN_sve, cfN_exn, Bool.false_and, Bool.true_and, Bool.and_true, Bool.and_false, Bool.or_true, Bool.true_or, Bool.or_false, Bool.false_or, Bool.not_true, Bool.not_false, if_true, if_false, Bool.false_eq_true, reduceIte, Option.map_some, Option.map_none, reduceCtorEq, ixD, atI_0, atI_1, atI_2, atI_3, atI_4, atI_5, atI_6, atI_7, atI_8, atI_9, atI_10, atI_11, atI_12, atI_nat', decide_true, decide_false, Bool.and_self, Option.isSome_some, Option.isSome_none, eqD_int, eqD_str, List.append_nil, stays_lst', stays_non', stays_tup', stays_str', stays_dic', wipeE, List.foldr_cons, List.foldr_nil, setV, mkL, mkD, items, lineN, Nat.reduceLeDiff,  List.reduceReplicate, Nat.reduceAdd, Nat.reduceSub, e1, dicV_dic, dKeys, inD_strs, hm, hx, true_or]
  exact exit_ex rfl (List.take_of_length_le (Nat.le_refl _))
theorem way_of_no (hw : T.fn fw = some (Cm.ways_of M.iParts)) (hf : T.fn f = some (Cm.way_of fw xW)) {d w : D} (hd : okd d) (hs : nodes d ≤ 1000000) (hF : isTr d = false) {n mc : Nat} (hn : 5 ≤ n) {h : Hb} :
    callN T n false mc f [.v d, .v w] h = .ex M.xT [] [] h := by
  obtain ⟨n, rfl⟩ : ∃ k, n = k + 1 := ⟨n - 1, by omega⟩
  rw [callF hf rfl rfl rfl]
  have e1 := ways_of_no M hw hd hs hF (n := n) (mc := h.length) (h := h) (by omega)
  simp -implicitDefEqProofs -dsimp only [Cm.way_of, Out.andThen_nx, Out.andThen_rt, Out.andThen_ex, Out.andThen_st, R.bind_ok, R.bind_ex, R.bind_st, R.nox_ok, fromR_ok, fromR_ex, fromR_st, bnd_ok, bnd_ex, bnd_st, frm_ok, frm_ex, frm_st, thn_nx, thn_rt, thn_ex, thn_st, trO_ex, trO_nx, trO_rt, e_var, e_non, e_bl, e_int, e_str, e_glo, e_op1, e_op2, e_op3, e_cmp, e_cmp3, e_and, e_or, e_not, e_ite, e_tup, e_lst, e_dct0, e_set0, e_call, e_new, e_fld, e_lc, e_dc, e_isE, e_isV, e_atE, t_cmp, t_cmp3, t_and, t_or, t_not, t_ite, t_var, t_bl, t_op1, t_op2, t_call, t_fld, t_isE, t_isV, x_nil, x_cons, a_nil, a_ex, a_ec, r_e, r_rng1, r_rng2, s_expr, s_set, s_unp, s_seti, s_setf, s_ret, s_raise, s_ite, s_whl, s_for, s_tr, s_pass, ss_nil, ss_cons, getV, optV, List.getElem?_cons_zero, List.getElem?_cons_succ, List.set_cons_zero, List.set_cons_succ, startE, List.map_cons, List.map_nil, List.length_cons, List.length_nil, List.cons_append, List.nil_append, recv, sem1, sem2, optB, truthR, truth, seqL, isI, calm1, calm2, cfN_hot, cfN_m, cfN_call, cfN_glo, cfN_sub, cfN_sve, cfN_exn, Bool.false_and, Bool.true_and, Bool.and_true, Bool.and_false, Bool.or_true, Bool.true_or, Bool.or_false, Bool.false_or, Bool.not_true, Bool.not_false, if_true, if_false, Bool.false_eq_true, reduceIte, Option.map_some, Option.map_none, reduceCtorEq, ixD, atI_0, atI_1, atI_2, atI_3, atI_4, atI_5, atI_6, atI_7, atI_8, atI_9, atI_10, atI_11, atI_12, atI_nat', decide_true, decide_false, Bool.and_self, Option.isSome_some, Option.isSome_none, eqD_int, eqD_str, List.append_nil, stays_lst', stays_non', stays_tup', stays_str', stays_dic', wipeE, List.foldr_cons, List.foldr_nil, setV, mkL, mkD, items, lineN, Nat.reduceLeDiff,  List.reduceReplicate, Nat.reduceAdd, Nat.reduceSub, e1]
  exact exit_ex rfl (List.take_of_length_le (Nat.le_refl _))

theorem chk_ok (hk : T.fn fk = some (Cm.forks_of M.iParts)) (hf : T.fn fc = some (Cm.check_fork fk xF)) {t : Tr} {ns : List Cs} (g : Good t ns) {w : Cs} (hm : w ∈ t.fks) {n mc : Nat} (hn : 5 ≤ n) {h : Hb} :
    callN T n false mc fc [.v t.val, .v (.str w)] h = .ok .non h := by
  obtain ⟨n, rfl⟩ : ∃ k, n = k + 1 := ⟨n - 1, by omega⟩
  rw [callF hf rfl rfl rfl]
  have e1 := forks_of_ok M hk g (n := n) (mc := h.length) (h := h) (by omega)
  simp -implicitDefEqProofs -dsimp only [Cm.check_fork, Out.andThen_nx, Out.andThen_rt, Out.andThen_ex, Out.andThen_st, R.bind_ok, R.bind_ex, R.bind_st, R.nox_ok, fromR_ok, fromR_ex, fromR_st, bnd_ok, bnd_ex, bnd_st, frm_ok, frm_ex, frm_st, thn_nx, thn_rt, thn_ex, thn_st, trO_ex, trO_nx, trO_rt, e_var, e_non, e_bl, e_int, e_str, e_glo, e_op1, e_op2, e_op3, e_cmp, e_cmp3, e_and, e_or, e_not, e_ite, e_tup, e_lst, e_dct0, e_set0, e_call, e_new, e_fld, e_lc, e_dc, e_isE, e_isV, e_atE, t_cmp, t_cmp3, t_and, t_or, t_not, t_ite, t_var, t_bl, t_op1, t_op2, t_call, t_fld, t_isE, t_isV, x_nil, x_cons, a_nil, a_ex, a_ec, r_e, r_rng1, r_rng2, s_expr, s_set, s_unp, s_seti, s_setf, s_ret, s_raise, s_ite, s_whl, s_for, s_tr, s_pass, ss_nil, ss_cons, getV, optV, List.getElem?_cons_zero, List.getElem?_cons_succ, List.set_cons_zero, List.set_cons_succ, startE, List.map_cons, List.map_nil, List.length_cons, List.length_nil, List.cons_append, List.nil_append, recv, sem1, sem2, optB, truthR, truth, seqL, isI, calm1, calm2, cfN_hot, cfN_m, cfN_call, cfN_glo, cfN_sub, cfN_sve, cfN_exn, Bool.false_and, Bool.true_and, Bool.and_true, Bool.and_false, Bool.or_true, Bool.true_or, Bool.or_false, Bool.false_or, Bool.not_true, Bool.not_false, if_true, if_false, Bool.false_eq_true, reduceIte, Option.map_some, Option.map_none, reduceCtorEq, ixD, atI_0, atI_1, atI_2, atI_3, atI_4, atI_5, atI_6, atI_7, atI_8, atI_9, atI_10, atI_11, atI_12, atI_nat', decide_true, decide_false, Bool.and_self, Option.isSome_some, Option.isSome_none, eqD_int, eqD_str, List.append_nil, stays_lst', stays_non', stays_tup', stays_str', stays_dic', wipeE, List.foldr_cons, List.foldr_nil, setV, mkL, mkD, items, lineN, Nat.reduceLeDiff,  List.reduceReplicate, Nat.reduceAdd, Nat.reduceSub, e1, inD_strs, hm]
  exact exit_nx (List.take_of_length_le (Nat.le_refl _))
theorem chk_unk (hk : T.fn fk = some (Cm.forks_of M.iParts)) (hf : T.fn fc = some (Cm.check_fork fk xF)) (hx : T.exn xF = ([nF], 1)) {t : Tr} {ns : List Cs} (g : Good t ns) {w : Cs} (hm : w ∉ t.fks) {n mc : Nat} (hn : 5 ≤ n) {h : Hb} :
    callN T n false mc fc [.v t.val, .v (.str w)] h = .ex xF [nF] [.str w] h := by
  obtain ⟨n, rfl⟩ : ∃ k, n = k + 1 := ⟨n - 1, by omega⟩
  rw [callF hf rfl rfl rfl]
  have e1 := forks_of_ok M hk g (n := n) (mc := h.length) (h := h) (by omega)
  simp -implicitDefEqProofs -dsimp only [Cm.check_fork, Out.andThen_nx, Out.andThen_rt, Out.andThen_ex, Out.andThen_st, R.bind_ok, R.bind_ex, R.bind_st, R.nox_ok, fromR_ok, fromR_ex, fromR_st, bnd_ok, bnd_ex, bnd_st, frm_ok, frm_ex, frm_st, thn_nx, thn_rt, thn_ex, thn_st, trO_ex, trO_nx, trO_rt, e_var, e_non, e_bl, e_int, e_str, e_glo, e_op1, e_op2, e_op3, e_cmp, e_cmp3, e_and, e_or, e_not, e_ite, e_tup, e_lst, e_dct0, e_set0, e_call, e_new, e_fld, e_lc, e_dc, e_isE, e_isV, e_atE, t_cmp, t_cmp3, t_and, t_or, t_not, t_ite, t_var, t_bl, t_op1, t_op2, t_call, t_fld, t_isE, t_isV, x_nil, x_cons, a_nil, a_ex, a_ec, r_e, r_rng1, r_rng2, s_expr, s_set, s_unp, s_seti, s_setf, s_ret, s_raise, s_ite, s_whl, s_for, s_tr, s_pass, ss_nil, ss_cons, getV, optV, List.getElem?_cons_zero, List.getElem?_cons_succ, List.set_cons_zero, List.set_cons_succ, startE, List.map_cons, List.map_nil, List.length_cons, List.length_nil, List.cons_append, List.nil_append, recv, sem1, sem2, optB, truthR, truth, seqL, isI, calm1, calm2, cfN_hot, cfN_m, cfN_call, cfN_glo, cfN_sub, cfN_sve, cfN_exn, Bool.false_and, Bool.true_and, Bool.and_true, Bool.and_false, Bool.or_true, Bool.true_or, Bool.or_false, Bool.false_or, Bool.not_true, Bool.not_false, if_true, if_false, Bool.false_eq_true, reduceIte, Option.map_some, Option.map_none, reduceCtorEq, ixD, atI_0, atI_1, atI_2, atI_3, atI_4, atI_5, atI_6, atI_7, atI_8, atI_9, atI_10, atI_11, atI_12, atI_nat', decide_true, decide_false, Bool.and_self, Option.isSome_some, Option.isSome_none, eqD_int, eqD_str, List.append_nil, stays_lst', stays_non', stays_tup', stays_str', stays_dic', wipeE, List.foldr_cons, List.foldr_nil, setV, mkL, mkD, items, lineN, Nat.reduceLeDiff,  List.reduceReplicate, Nat.reduceAdd, Nat.reduceSub, e1, inD_strs, hm, hx, true_or]
  exact exit_ex rfl (List.take_of_length_le (Nat.le_refl _))
theorem chk_no (hk : T.fn fk = some (Cm.forks_of M.iParts)) (hf : T.fn fc = some (Cm.check_fork fk xF)) {d w : D} (hd : okd d) (hs : nodes d ≤ 1000000) (hF : isTr d = false) {n mc : Nat} (hn : 5 ≤ n) {h : Hb} :
    callN T n false mc fc [.v d, .v w] h = .ex M.xT [] [] h := by
  obtain ⟨n, rfl⟩ : ∃ k, n = k + 1 := ⟨n - 1, by omega⟩
  rw [callF hf rfl rfl rfl]
  have e1 := forks_of_no M hk hd hs hF (n := n) (mc := h.length) (h := h) (by omega)
  simp -implicitDefEqProofs -dsimp only [Cm.check_fork, Out.andThen_nx, Out.andThen_rt, Out.andThen_ex, Out.andThen_st, R.bind_ok, R.bind_ex, R.bind_st, R.nox_ok, fromR_ok, fromR_ex, fromR_st, bnd_ok, bnd_ex, bnd_st, frm_ok, frm_ex, frm_st, thn_nx, thn_rt, thn_ex, thn_st, trO_ex, trO_nx, trO_rt, e_var, e_non, e_bl, e_int, e_str, e_glo, e_op1, e_op2, e_op3, e_cmp, e_cmp3, e_and, e_or, e_not, e_ite, e_tup, e_lst, e_dct0, e_set0, e_call, e_new, e_fld, e_lc, e_dc, e_isE, e_isV, e_atE, t_cmp, t_cmp3, t_and, t_or, t_not, t_ite, t_var, t_bl, t_op1, t_op2, t_call, t_fld, t_isE, t_isV, x_nil, x_cons, a_nil, a_ex, a_ec, r_e, r_rng1, r_rng2, s_expr, s_set, s_unp, s_seti, s_setf, s_ret, s_raise, s_ite, s_whl, s_for, s_tr, s_pass, ss_nil, ss_cons, getV, optV, List.getElem?_cons_zero, List.getElem?_cons_succ, List.set_cons_zero, List.set_cons_succ, startE, List.map_cons, List.map_nil, List.length_cons, List.length_nil, List.cons_append, List.nil_append, recv, sem1, sem2, optB, truthR, truth, seqL, isI, calm1, calm2, cfN_hot, cfN_m, cfN_call, cfN_glo, cfN_sub, cfN_sve, cfN_exn, Bool.false_and, Bool.true_and, Bool.and_true, Bool.and_false, Bool.or_true, Bool.true_or, Bool.or_false, Bool.false_or, Bool.not_true, Bool.not_false, if_true, if_false, Bool.false_eq_true, reduceIte, Option.map_some, Option.map_none, reduceCtorEq, ixD, atI_0, atI_1, atI_2, atI_3, atI_4, atI_5, atI_6, atI_7, atI_8, atI_9, atI_10, atI_11, atI_12, atI_nat', decide_true, decide_false, Bool.and_self, Option.isSome_some, Option.isSome_none, eqD_int, eqD_str, List.append_nil, stays_lst', stays_non', stays_tup', stays_str', stays_dic', wipeE, List.foldr_cons, List.foldr_nil, setV, mkL, mkD, items, lineN, Nat.reduceLeDiff,  List.reduceReplicate, Nat.reduceAdd, Nat.reduceSub, e1]
  exact exit_ex rfl (List.take_of_length_le (Nat.le_refl _))

theorem istr_0 : istr ((0 : Nat) : Int) = [48] := by decide
theorem istr_1 : istr ((1 : Nat) : Int) = [49] := by decide
/-- the sign of a side -/
def side (s : Nat) : Cs := [48 + s]
theorem istr_side {s : Nat} (hs : s < 2) : istr (s : Int) = side s := by
  match s, hs with
  | 0, _ => exact istr_0
  | 1, _ => exact istr_1
/-- the names whose ways begin so -/
def under (t : Tr) (ns : List Cs) (w : Cs) : List Cs := ((List.range ns.length).filter fun k => match t.paths[k]? with | some p => w.isPrefixOf p | none => false).filterMap fun k => ns[k]?

theorem filter_idx {α : Type} (p : α → Bool) (q : Nat → Bool) : ∀ (l : List α) (o : Nat), (∀ k x, l[k]? = some x → p x = q (o + k)) → l.filter p = ((List.range l.length).filter fun k => q (o + k)).filterMap fun k => l[k]?
  | [], _, _ => rfl
  | a :: l, o, H => by
    have h0 := H 0 a rfl
    rw [Nat.add_zero] at h0
    have ih := filter_idx p q l (o + 1) (fun k x hk => by
      have := H (k + 1) x (by simpa using hk)
      rw [this]; congr 1; omega)
    rw [List.length_cons, List.range_succ_eq_map, List.filter_cons, List.filter_cons, List.filter_map, h0, ih]
    have e : ((fun k => q (o + k)) ∘ Nat.succ) = fun k => q (o + 1 + k) := by funext k; simp [Function.comp]; congr 1; omega
    rw [e, Nat.add_zero]
    have e2 : ((fun k => (a :: l)[k]?) ∘ Nat.succ) = fun k => l[k]? := by funext k; simp [Function.comp]
    rw [Nat.add_zero]
    cases q o with
    | true => simp [List.filterMap_map, e2]
    | false => simp [List.filterMap_map, e2]

theorem ben_ok (hw : T.fn fw = some (Cm.ways_of M.iParts)) (hk : T.fn fk = some (Cm.forks_of M.iParts)) (hc : T.fn fc = some (Cm.check_fork fk xF)) (hf : T.fn f = some (Cm.names_beneath fc fw)) {t : Tr} {ns : List Cs} (g : Good t ns) {w : Cs} (hm : w ∈ t.fks) (hl : w.length ≤ 1000) {s : Nat} (hs : s < 2) {n mc : Nat} (hn : 6 ≤ n) {h : Hb} :
    callN T n false mc f [.v t.val, .v (.str w), .v (.int s)] h = .ok (.lst ((under t ns (w ++ side s)).map .str)) h := by
  obtain ⟨n, rfl⟩ : ∃ k, n = k + 1 := ⟨n - 1, by omega⟩
  rw [callF hf rfl rfl rfl]
  have e1 := ways_of_ok M hw g (n := n) (mc := h.length) (h := h) (by omega)
  have e2 := chk_ok M hk hc g hm (n := n) (mc := h.length) (h := h) (by omega)
  have l1 : w.length + (side s).length ≤ 16777216 := by simp [side]; omega
  have hl2 := g.plen
  have l3 : (s : Int).natAbs.log2 < 1920 := by
    match s, hs with
    | 0, _ => exact (by decide)
    | 1, _ => exact (by decide)
  have e3 : lcGo [5] [some (.v t.val), some (.v (.str w)), some (.v (.int s)), some (.v (.str (w ++ side s))), some (.v (.dic (ns.map .s) (t.paths.map .str))), none] (fun _ => true) (evT (cfN T n false h.length) Cm.names_beneath_b1) (evE (cfN T n false h.length) Cm.names_beneath_b2) (ns.map .str) [] h = .ok ((under t ns (w ++ side s)).map .str) h := by
    rw [lc_strs (fun x => match getD (ns.map .s) (t.paths.map .str) (.s x) with | some (.str p) => (w ++ side s).isPrefixOf p | _ => false) .str (by have := g.len; unfold lineN; omega) (by
      intro x hx
      obtain ⟨k, hk⟩ := List.getElem?_of_mem hx
      have hkl : k < ns.length := (List.getElem?_eq_some_iff.1 hk).1
      have hp : t.paths[k]? = some t.paths[k] := List.getElem?_eq_getElem (by omega)
      have gd := getD_at g.nd hk hp
      refine ⟨?_, fun _ => ?_⟩
      · simp -implicitDefEqProofs -dsimp only [Cm.names_beneath_b1, Out.andThen_nx, Out.andThen_rt, Out.andThen_ex, Out.andThen_st, R.bind_ok, R.bind_ex, R.bind_st, R.nox_ok, fromR_ok, fromR_ex, fromR_st, bnd_ok, bnd_ex, bnd_st, frm_ok, frm_ex, frm_st, thn_nx, thn_rt, thn_ex, thn_st, trO_ex, trO_nx, trO_rt, e_var, e_non, e_bl, e_int, e_str, e_glo, e_op1, e_op2, e_op3, e_cmp, e_cmp3, e_and, e_or, e_not, e_ite, e_tup, e_lst, e_dct0, e_set0, e_call, e_new, e_fld, e_lc, e_dc, e_isE, e_isV, e_atE, t_cmp, t_cmp3, t_and, t_or, t_not, t_ite, t_var, t_bl, t_op1, t_op2, t_call, t_fld, t_isE, t_isV, x_nil, x_cons, a_nil, a_ex, a_ec, r_e, r_rng1, r_rng2, s_expr, s_set, s_unp, s_seti, s_setf, s_ret, s_raise, s_ite, s_whl, s_for, s_tr, s_pass, ss_nil, ss_cons, getV, optV, List.getElem?_cons_zero, List.getElem?_cons_succ, List.set_cons_zero, List.set_cons_succ, startE, List.map_cons, List.map_nil, List.length_cons, List.length_nil, List.cons_append, List.nil_append, recv, sem1, sem2, optB, truthR, truth, seqL, isI, calm1, calm2, cfN_hot, cfN_m, cfN_call, cfN_glo, cfN_sub, cfN_sve, cfN_exn, Bool.false_and, Bool.true_and, Bool.and_true, Bool.and_false, Bool.or_true, Bool.true_or, Bool.or_false, Bool.false_or, Bool.not_true, Bool.not_false, if_true, if_false, Bool.false_eq_true, reduceIte, Option.map_some, Option.map_none, reduceCtorEq, ixD, atI_0, atI_1, atI_2, atI_3, atI_4, atI_5, atI_6, atI_7, atI_8, atI_9, atI_10, atI_11, atI_12, atI_nat', decide_true, decide_false, Bool.and_self, Option.isSome_some, Option.isSome_none, eqD_int, eqD_str, List.append_nil, stays_lst', stays_non', stays_tup', stays_str', stays_dic', wipeE, List.foldr_cons, List.foldr_nil, setV, mkL, mkD, items, lineN, Nat.reduceLeDiff,  List.reduceReplicate, Nat.reduceAdd, Nat.reduceSub, dicV_dic, gd]
      · simp -implicitDefEqProofs -dsimp only [Cm.names_beneath_b2, Out.andThen_nx, Out.andThen_rt, Out.andThen_ex, Out.andThen_st, R.bind_ok, R.bind_ex, R.bind_st, R.nox_ok, fromR_ok, fromR_ex, fromR_st, bnd_ok, bnd_ex, bnd_st, frm_ok, frm_ex, frm_st, thn_nx, thn_rt, thn_ex, thn_st, trO_ex, trO_nx, trO_rt, e_var, e_non, e_bl, e_int, e_str, e_glo, e_op1, e_op2, e_op3, e_cmp, e_cmp3, e_and, e_or, e_not, e_ite, e_tup, e_lst, e_dct0, e_set0, e_call, e_new, e_fld, e_lc, e_dc, e_isE, e_isV, e_atE, t_cmp, t_cmp3, t_and, t_or, t_not, t_ite, t_var, t_bl, t_op1, t_op2, t_call, t_fld, t_isE, t_isV, x_nil, x_cons, a_nil, a_ex, a_ec, r_e, r_rng1, r_rng2, s_expr, s_set, s_unp, s_seti, s_setf, s_ret, s_raise, s_ite, s_whl, s_for, s_tr, s_pass, ss_nil, ss_cons, getV, optV, List.getElem?_cons_zero, List.getElem?_cons_succ, List.set_cons_zero, List.set_cons_succ, startE, List.map_cons, List.map_nil, List.length_cons, List.length_nil, List.cons_append, List.nil_append, recv, sem1, sem2, optB, truthR, truth, seqL, isI, calm1, calm2, cfN_hot, cfN_m, cfN_call, cfN_glo, cfN_sub, cfN_sve, cfN_exn, Bool.false_and, Bool.true_and, Bool.and_true, Bool.and_false, Bool.or_true, Bool.true_or, Bool.or_false, Bool.false_or, Bool.not_true, Bool.not_false, if_true, if_false, Bool.false_eq_true, reduceIte, Option.map_some, Option.map_none, reduceCtorEq, ixD, atI_0, atI_1, atI_2, atI_3, atI_4, atI_5, atI_6, atI_7, atI_8, atI_9, atI_10, atI_11, atI_12, atI_nat', decide_true, decide_false, Bool.and_self, Option.isSome_some, Option.isSome_none, eqD_int, eqD_str, List.append_nil, stays_lst', stays_non', stays_tup', stays_str', stays_dic', wipeE, List.foldr_cons, List.foldr_nil, setV, mkL, mkD, items, lineN, Nat.reduceLeDiff,  List.reduceReplicate, Nat.reduceAdd, Nat.reduceSub])]
    refine congrArg (fun l : List Cs => R.ok (l.map D.str) h) ?_
    have := filter_idx (fun x => match getD (ns.map .s) (t.paths.map .str) (.s x) with | some (.str p) => (w ++ side s).isPrefixOf p | _ => false) (fun k => match t.paths[k]? with | some p => (w ++ side s).isPrefixOf p | none => false) ns 0 (by
      intro k x hk
      have hkl : k < ns.length := (List.getElem?_eq_some_iff.1 hk).1
      have hp : t.paths[k]? = some t.paths[k] := List.getElem?_eq_getElem (by omega)
      simp only [getD_at g.nd hk hp, Nat.zero_add, hp])
    rw [this]
    simp only [Nat.zero_add]
    rfl
  simp -implicitDefEqProofs -dsimp only [Cm.names_beneath, Out.andThen_nx, Out.andThen_rt, Out.andThen_ex, Out.andThen_st, R.bind_ok, R.bind_ex, R.bind_st, R.nox_ok, fromR_ok, fromR_ex, fromR_st, bnd_ok, bnd_ex, bnd_st, frm_ok, frm_ex, frm_st, thn_nx, thn_rt, thn_ex, thn_st, trO_ex, trO_nx, trO_rt, e_var, e_non, e_bl, e_int, e_str, e_glo, e_op1, e_op2, e_op3, e_cmp, e_cmp3, e_and, e_or, e_not, e_ite, e_tup, e_lst, e_dct0, e_set0, e_call, e_new, e_fld, e_lc, e_dc, e_isE, e_isV, e_atE, t_cmp, t_cmp3, t_and, t_or, t_not, t_ite, t_var, t_bl, t_op1, t_op2, t_call, t_fld, t_isE, t_isV, x_nil, x_cons, a_nil, a_ex, a_ec, r_e, r_rng1, r_rng2, s_expr, s_set, s_unp, s_seti, s_setf, s_ret, s_raise, s_ite, s_whl, s_for, s_tr, s_pass, ss_nil, ss_cons, getV, optV, List.getElem?_cons_zero, List.getElem?_cons_succ, List.set_cons_zero, List.set_cons_succ, startE, List.map_cons, List.map_nil, List.length_cons, List.length_nil, List.cons_append, List.nil_append, recv, sem1, sem2, optB, truthR, truth, seqL, isI, calm1, calm2, cfN_hot, cfN_m, cfN_call, cfN_glo, cfN_sub, cfN_sve, cfN_exn, Bool.false_and, Bool.true_and, Bool.and_true, Bool.and_false, Bool.or_true, Bool.true_or, Bool.or_false, Bool.false_or, Bool.not_true, Bool.not_false, if_true, if_false, Bool.false_eq_true, reduceIte, Option.map_some, Option.map_none, reduceCtorEq, ixD, atI_0, atI_1, atI_2, atI_3, atI_4, atI_5, atI_6, atI_7, atI_8, atI_9, atI_10, atI_11, atI_12, atI_nat', decide_true, decide_false, Bool.and_self, Option.isSome_some, Option.isSome_none, eqD_int, eqD_str, List.append_nil, stays_lst', stays_non', stays_tup', stays_str', stays_dic', wipeE, List.foldr_cons, List.foldr_nil, setV, mkL, mkD, items, lineN, Nat.reduceLeDiff,  List.reduceReplicate, Nat.reduceAdd, Nat.reduceSub, e1, e2, istr_side hs, l1, l3, dicV_dic, dKeys, e3]
  exact exit_rt (by simp [nb, below, belows_all]) (List.take_of_length_le (Nat.le_refl _))
theorem ben_unk (hw : T.fn fw = some (Cm.ways_of M.iParts)) (hk : T.fn fk = some (Cm.forks_of M.iParts)) (hc : T.fn fc = some (Cm.check_fork fk xF)) (hx : T.exn xF = ([nF], 1)) (hf : T.fn f = some (Cm.names_beneath fc fw)) {t : Tr} {ns : List Cs} (g : Good t ns) {w : Cs} {s : D} (hm : w ∉ t.fks) {n mc : Nat} (hn : 6 ≤ n) {h : Hb} :
    callN T n false mc f [.v t.val, .v (.str w), .v s] h = .ex xF [nF] [.str w] h := by
  obtain ⟨n, rfl⟩ : ∃ k, n = k + 1 := ⟨n - 1, by omega⟩
  rw [callF hf rfl rfl rfl]
  have e2 := chk_unk M hk hc hx g hm (n := n) (mc := h.length) (h := h) (by omega)
  simp -implicitDefEqProofs -dsimp only [Cm.names_beneath, Out.andThen_nx, Out.andThen_rt, Out.andThen_ex, Out.andThen_st, R.bind_ok, R.bind_ex, R.bind_st, R.nox_ok, fromR_ok, fromR_ex, fromR_st, bnd_ok, bnd_ex, bnd_st, frm_ok, frm_ex, frm_st, thn_nx, thn_rt, thn_ex, thn_st, trO_ex, trO_nx, trO_rt, e_var, e_non, e_bl, e_int, e_str, e_glo, e_op1, e_op2, e_op3, e_cmp, e_cmp3, e_and, e_or, e_not, e_ite, e_tup, e_lst, e_dct0, e_set0, e_call, e_new, e_fld, e_lc, e_dc, e_isE, e_isV, e_atE, t_cmp, t_cmp3, t_and, t_or, t_not, t_ite, t_var, t_bl, t_op1, t_op2, t_call, t_fld, t_isE, t_isV, x_nil, x_cons, a_nil, a_ex, a_ec, r_e, r_rng1, r_rng2, s_expr, s_set, s_unp, s_seti, s_setf, s_ret, s_raise, s_ite, s_whl, s_for, s_tr, s_pass, ss_nil, ss_cons, getV, optV, List.getElem?_cons_zero, List.getElem?_cons_succ, List.set_cons_zero, List.set_cons_succ, startE, List.map_cons, List.map_nil, List.length_cons, List.length_nil, List.cons_append, List.nil_append, recv, sem1, sem2, optB, truthR, truth, seqL, isI, calm1, calm2, cfN_hot, cfN_m, cfN_call, cfN_glo, cfN_sub, cfN_sve, cfN_exn, Bool.false_and, Bool.true_and, Bool.and_true, Bool.and_false, Bool.or_true, Bool.true_or, Bool.or_false, Bool.false_or, Bool.not_true, Bool.not_false, if_true, if_false, Bool.false_eq_true, reduceIte, Option.map_some, Option.map_none, reduceCtorEq, ixD, atI_0, atI_1, atI_2, atI_3, atI_4, atI_5, atI_6, atI_7, atI_8, atI_9, atI_10, atI_11, atI_12, atI_nat', decide_true, decide_false, Bool.and_self, Option.isSome_some, Option.isSome_none, eqD_int, eqD_str, List.append_nil, stays_lst', stays_non', stays_tup', stays_str', stays_dic', wipeE, List.foldr_cons, List.foldr_nil, setV, mkL, mkD, items, lineN, Nat.reduceLeDiff,  List.reduceReplicate, Nat.reduceAdd, Nat.reduceSub, e2]
  exact exit_ex rfl (List.take_of_length_le (Nat.le_refl _))
theorem ben_no (hk : T.fn fk = some (Cm.forks_of M.iParts)) (hc : T.fn fc = some (Cm.check_fork fk xF)) (hf : T.fn f = some (Cm.names_beneath fc fw)) {d w s : D} (hd : okd d) (hs : nodes d ≤ 1000000) (hF : isTr d = false) {n mc : Nat} (hn : 6 ≤ n) {h : Hb} :
    callN T n false mc f [.v d, .v w, .v s] h = .ex M.xT [] [] h := by
  obtain ⟨n, rfl⟩ : ∃ k, n = k + 1 := ⟨n - 1, by omega⟩
  rw [callF hf rfl rfl rfl]
  have e2 := chk_no M hk hc hd hs hF (n := n) (mc := h.length) (h := h) (w := w) (by omega)
  simp -implicitDefEqProofs -dsimp only [Cm.names_beneath, Out.andThen_nx, Out.andThen_rt, Out.andThen_ex, Out.andThen_st, R.bind_ok, R.bind_ex, R.bind_st, R.nox_ok, fromR_ok, fromR_ex, fromR_st, bnd_ok, bnd_ex, bnd_st, frm_ok, frm_ex, frm_st, thn_nx, thn_rt, thn_ex, thn_st, trO_ex, trO_nx, trO_rt, e_var, e_non, e_bl, e_int, e_str, e_glo, e_op1, e_op2, e_op3, e_cmp, e_cmp3, e_and, e_or, e_not, e_ite, e_tup, e_lst, e_dct0, e_set0, e_call, e_new, e_fld, e_lc, e_dc, e_isE, e_isV, e_atE, t_cmp, t_cmp3, t_and, t_or, t_not, t_ite, t_var, t_bl, t_op1, t_op2, t_call, t_fld, t_isE, t_isV, x_nil, x_cons, a_nil, a_ex, a_ec, r_e, r_rng1, r_rng2, s_expr, s_set, s_unp, s_seti, s_setf, s_ret, s_raise, s_ite, s_whl, s_for, s_tr, s_pass, ss_nil, ss_cons, getV, optV, List.getElem?_cons_zero, List.getElem?_cons_succ, List.set_cons_zero, List.set_cons_succ, startE, List.map_cons, List.map_nil, List.length_cons, List.length_nil, List.cons_append, List.nil_append, recv, sem1, sem2, optB, truthR, truth, seqL, isI, calm1, calm2, cfN_hot, cfN_m, cfN_call, cfN_glo, cfN_sub, cfN_sve, cfN_exn, Bool.false_and, Bool.true_and, Bool.and_true, Bool.and_false, Bool.or_true, Bool.true_or, Bool.or_false, Bool.false_or, Bool.not_true, Bool.not_false, if_true, if_false, Bool.false_eq_true, reduceIte, Option.map_some, Option.map_none, reduceCtorEq, ixD, atI_0, atI_1, atI_2, atI_3, atI_4, atI_5, atI_6, atI_7, atI_8, atI_9, atI_10, atI_11, atI_12, atI_nat', decide_true, decide_false, Bool.and_self, Option.isSome_some, Option.isSome_none, eqD_int, eqD_str, List.append_nil, stays_lst', stays_non', stays_tup', stays_str', stays_dic', wipeE, List.foldr_cons, List.foldr_nil, setV, mkL, mkD, items, lineN, Nat.reduceLeDiff,  List.reduceReplicate, Nat.reduceAdd, Nat.reduceSub, e2]
  exact exit_ex rfl (List.take_of_length_le (Nat.le_refl _))
end
end Q
end FV

/-! The law on the ways of trees: its own defs. -/
namespace FV
namespace Q
open PySem
namespace C3
def bag : Fn := ⟨2, 4, (.cons (.set 2 (.op2 .add (.op2 .mod (.op1 .intI (.op1 .sum1 (.op2 .slU (.var 0) (.int 1)))) (.int 1000003)) (.op2 .mul (.int 7919) (.var 1)))) (.cons (.ite (.cmp .lt (.var 1) (.op1 .len (.var 0))) (.cons (.set 2 (.op2 .ix (.var 0) (.var 1))) (.nil)) (.nil)) (.cons (.set 3 (.int 0)) (.cons (.ite (.cmp .ge (.var 2) (.op2 .pow (.int 10) (.int 18))) (.cons (.set 3 (.var 2)) (.nil)) (.nil)) (.cons (.ret (.lst true (.cons (.var 3) (.cons (.op2 .mod (.op1 .intI (.var 2)) (.int 2147483629)) (.cons (.var 1) (.nil)))))) (.nil)))))), true⟩
def odd_leaf : Fn := ⟨4, 9, (.cons (.set 4 (.op2 .ix (.str [96, 123, 65, 90, 48, 57, 95, 32, 45, 46]) (.call 12 (.ex (.var 0) (.ex (.int 10) (.nil)))))) (.cons (.set 5 (.call 12 (.ex (.var 0) (.ex (.op2 .add (.op1 .len (.var 1)) (.int 1)) (.nil))))) (.cons (.set 6 (.op2 .slU (.op2 .add (.var 1) (.str [97, 98, 99, 100, 101, 102, 103, 104, 105, 106, 107, 108, 109, 110, 111])) (.op2 .add (.int 9) (.call 12 (.ex (.var 0) (.ex (.int 5) (.nil))))))) (.cons (.set 7 (.call 12 (.ex (.var 0) (.ex (.int 4) (.nil))))) (.cons (.set 8 (.lst false (.cons (.str []) (.cons (.op2 .add (.op2 .add (.op2 .slU (.var 1) (.var 5)) (.var 4)) (.op2 .slL (.var 1) (.var 5))) (.cons (.var 6) (.cons (.op2 .ix (.tup (.cons (.non) (.cons (.int 0) (.cons (.bl true) (.cons (.op2 .pow (.int 10) (.int 20)) (.nil)))))) (.var 7)) (.cons (.op2 .ix (.tup (.cons (.lst false (.nil)) (.cons (.tup (.nil)) (.cons (.dct0 false) (.cons (.tup (.cons (.var 1) (.nil))) (.nil)))))) (.var 7)) (.cons (.op2 .ix (.tup (.cons (.lst false (.cons (.var 1) (.nil))) (.cons (.tup (.cons (.var 1) (.cons (.var 1) (.nil)))) (.cons (.tup (.cons (.var 1) (.cons (.var 2) (.cons (.var 3) (.nil))))) (.cons (.lst false (.cons (.var 1) (.cons (.var 2) (.nil)))) (.nil)))))) (.var 7)) (.nil))))))))) (.cons (.ret (.op2 .ix (.var 8) (.call 12 (.ex (.var 0) (.ex (.int 6) (.nil)))))) (.nil))))))), false⟩
def odd_fork_b1 : Ex := (.cmp .eq (.op2 .slU (.var 8) (.int 1)) (.str [48]))
def odd_fork_b2 : Ex := (.tup (.cons (.op2 .slL (.var 8) (.int 1)) (.cons (.var 9) (.nil))))
def odd_fork_b3 : Ex := (.cmp .eq (.op2 .slU (.var 8) (.int 1)) (.str [49]))
def odd_fork_b4 : Ex := (.tup (.cons (.op2 .slL (.var 8) (.int 1)) (.cons (.var 9) (.nil))))
def odd_fork : Fn := ⟨4, 10, (.cons (.set 4 (.lc false [8, 9] [8, 9] (.e (.var 0)) (odd_fork_b1) (odd_fork_b2))) (.cons (.set 5 (.lc false [8, 9] [8, 9] (.e (.var 0)) (odd_fork_b3) (odd_fork_b4))) (.cons (.ite (.cmp .eq (.var 1) (.str [])) (.cons (.set 6 (.call 17 (.ex (.var 4) (.nil)))) (.cons (.set 7 (.call 17 (.ex (.var 5) (.nil)))) (.cons (.ret (.op2 .ix (.tup (.cons (.lst false (.cons (.var 6) (.cons (.var 7) (.nil)))) (.cons (.tup (.cons (.var 6) (.nil))) (.cons (.tup (.cons (.var 6) (.cons (.var 7) (.cons (.var 3) (.nil))))) (.cons (.tup (.cons (.var 6) (.cons (.var 6) (.nil)))) (.nil)))))) (.var 2))) (.nil)))) (.nil)) (.cons (.ite (.cmp .eq (.op2 .slU (.var 1) (.int 1)) (.str [48])) (.cons (.ret (.tup (.cons (.call 20 (.ex (.var 4) (.ex (.op2 .slL (.var 1) (.int 1)) (.ex (.var 2) (.ex (.var 3) (.nil)))))) (.cons (.call 17 (.ex (.var 5) (.nil))) (.nil))))) (.nil)) (.nil)) (.cons (.ret (.tup (.cons (.call 17 (.ex (.var 4) (.nil))) (.cons (.call 20 (.ex (.var 5) (.ex (.op2 .slL (.var 1) (.int 1)) (.ex (.var 2) (.ex (.var 3) (.nil)))))) (.nil))))) (.nil)))))), false⟩
def no_tree_b1 : Sms := (.cons (.set 10 (.tup (.cons (.var 10) (.cons (.op2 .ix (.var 2) (.int 0)) (.nil))))) (.nil))
def no_tree_b2 : Ex := (.tup (.cons (.op2 .ix (.var 1) (.var 11)) (.cons (.op2 .ix (.var 2) (.var 11)) (.nil))))
def no_tree : Fn := ⟨5, 14, (.cons (.set 5 (.call 21 (.ex (.var 1) (.nil)))) (.cons (.set 6 (.call 12 (.ex (.var 0) (.ex (.int 8) (.nil))))) (.cons (.ite (.cmp .eq (.var 6) (.int 0)) (.cons (.set 9 (.op2 .add (.int 13) (.call 12 (.ex (.var 0) (.ex (.int 4) (.nil)))))) (.cons (.ret (.call 18 (.ex (.call 16 (.ex (.var 0) (.ex (.var 9) (.nil)))) (.ex (.call 15 (.ex (.var 0) (.ex (.var 9) (.nil)))) (.nil))))) (.nil))) (.nil)) (.cons (.ite (.cmp .eq (.var 6) (.int 1)) (.cons (.set 10 (.var 3)) (.cons (.for [11] (.rng1 (.op2 .add (.int 30) (.call 12 (.ex (.var 0) (.ex (.int 30) (.nil)))))) (no_tree_b1)) (.cons (.ret (.var 10)) (.nil)))) (.nil)) (.cons (.ite (.and (.cmp .lt (.var 6) (.int 5)) (.var 5)) (.cons (.set 12 (.op2 .ix (.var 5) (.call 12 (.ex (.var 0) (.ex (.op1 .len (.var 5)) (.nil)))))) (.cons (.set 13 (.lc false [11] [11] (.rng1 (.op1 .len (.var 2))) (.bl true) (no_tree_b2))) (.cons (.ret (.call 20 (.ex (.var 13) (.ex (.var 12) (.ex (.call 12 (.ex (.var 0) (.ex (.int 4) (.nil)))) (.ex (.var 4) (.nil))))))) (.nil)))) (.nil)) (.cons (.set 7 (.call 12 (.ex (.var 0) (.ex (.op1 .len (.var 2)) (.nil))))) (.cons (.set 8 (.call 19 (.ex (.var 0) (.ex (.op2 .ix (.var 2) (.var 7)) (.ex (.var 3) (.ex (.var 4) (.nil))))))) (.cons (.ret (.call 18 (.ex (.var 1) (.ex (.op2 .add (.op2 .add (.op2 .slU (.var 2) (.var 7)) (.lst false (.cons (.var 8) (.nil)))) (.op2 .slL (.var 2) (.op2 .add (.var 7) (.int 1)))) (.nil))))) (.nil))))))))), false⟩
def told : Fn := ⟨1, 2, (.cons (.set 1 (.lst false (.cons (.isE 0 2) (.cons (.isE 0 3) (.cons (.isE 0 5) (.cons (.isE 0 1) (.cons (.isE 0 4) (.cons (.isE 0 6) (.nil))))))))) (.cons (.ite (.or (.cmp .ne (.op2 .count (.var 1) (.bl true)) (.int 1)) (.not (.isV 0))) (.cons (.ret (.tup (.cons (.int 9) (.cons (.str []) (.nil))))) (.nil)) (.nil)) (.cons (.ite (.isE 0 2) (.cons (.ret (.tup (.cons (.int 1) (.cons (.str []) (.nil))))) (.nil)) (.nil)) (.cons (.ite (.isE 0 3) (.cons (.ret (.tup (.cons (.int 2) (.cons (.atE 0 1) (.nil))))) (.nil)) (.nil)) (.cons (.ite (.isE 0 5) (.cons (.ret (.tup (.cons (.int 3) (.cons (.atE 0 2) (.nil))))) (.nil)) (.nil)) (.cons (.ret (.tup (.cons (.int 9) (.cons (.str []) (.nil))))) (.nil))))))), false⟩
def ask : Fn := ⟨4, 5, (.cons (.tr (.cons (.ite (.cmp .eq (.var 0) (.int 0)) (.cons (.ret (.tup (.cons (.int 0) (.cons (.call 3 (.ex (.var 1) (.nil))) (.nil))))) (.nil)) (.nil)) (.cons (.ite (.cmp .eq (.var 0) (.int 1)) (.cons (.ret (.tup (.cons (.int 0) (.cons (.call 4 (.ex (.var 1) (.nil))) (.nil))))) (.nil)) (.nil)) (.cons (.ite (.cmp .eq (.var 0) (.int 2)) (.cons (.ret (.tup (.cons (.int 0) (.cons (.call 5 (.ex (.var 1) (.ex (.var 2) (.nil)))) (.nil))))) (.nil)) (.nil)) (.cons (.ite (.cmp .eq (.var 0) (.int 3)) (.cons (.ret (.tup (.cons (.int 0) (.cons (.call 6 (.ex (.var 1) (.nil))) (.nil))))) (.nil)) (.nil)) (.cons (.ite (.cmp .eq (.var 0) (.int 4)) (.cons (.ret (.tup (.cons (.int 0) (.cons (.call 8 (.ex (.var 1) (.nil))) (.nil))))) (.nil)) (.nil)) (.cons (.ret (.tup (.cons (.int 0) (.cons (.call 9 (.ex (.var 1) (.ex (.var 2) (.ex (.var 3) (.nil))))) (.nil))))) (.nil))))))) (.cons 0 4 (.cons (.ret (.call 23 (.ec 4 (.nil)))) (.nil)) (.nil))) (.nil)), false⟩
def texts_b1 : Ex := (.and (.op1 (.isTy .str) (.op2 .ix (.var 0) (.var 2))) (.cmp .eq (.op2 .ix (.var 0) (.var 2)) (.op2 .ix (.var 1) (.var 2))))
def texts : Fn := ⟨2, 3, (.cons (.ite (.or (.not (.op1 (.isTy .list) (.var 0))) (.cmp .ne (.op1 .len (.var 0)) (.op1 .len (.var 1)))) (.cons (.ret (.bl false)) (.nil)) (.nil)) (.cons (.ret (.op1 .all (.lc false [2] [2] (.rng1 (.op1 .len (.var 1))) (.bl true) (texts_b1)))) (.nil))), false⟩
def tells_b1 : Ex := (.op2 .ix (.var 3) (.var 5))
def tells_b2 : Ex := (.call 5 (.ex (.var 0) (.ex (.var 5) (.nil))))
def tells_b3 : Ex := (.op1 .len (.var 6))
def tells : Fn := ⟨3, 7, (.cons (.ite (.cmp .isnot (.call 1 (.ex (.var 0) (.nil))) (.bl true)) (.cons (.ret (.bl false)) (.nil)) (.nil)) (.cons (.ite (.not (.call 25 (.ex (.call 3 (.ex (.var 0) (.nil))) (.ex (.var 2) (.nil))))) (.cons (.ret (.bl false)) (.nil)) (.nil)) (.cons (.set 3 (.call 4 (.ex (.var 0) (.nil)))) (.cons (.ite (.or (.not (.op1 (.isTy .dict) (.var 3))) (.not (.call 25 (.ex (.op1 (.lkeys false) (.var 3)) (.ex (.var 2) (.nil)))))) (.cons (.ret (.bl false)) (.nil)) (.nil)) (.cons (.ite (.not (.call 25 (.ex (.lc false [5] [5] (.e (.var 2)) (.bl true) (tells_b1)) (.ex (.var 1) (.nil))))) (.cons (.ret (.bl false)) (.nil)) (.nil)) (.cons (.ite (.not (.call 25 (.ex (.lc false [5] [5] (.e (.var 2)) (.bl true) (tells_b2)) (.ex (.var 1) (.nil))))) (.cons (.ret (.bl false)) (.nil)) (.nil)) (.cons (.set 4 (.call 8 (.ex (.var 0) (.nil)))) (.cons (.ite (.or (.not (.op1 (.isTy .int) (.var 4))) (.op1 (.isTy .bool) (.var 4))) (.cons (.ret (.bl false)) (.nil)) (.nil)) (.cons (.ret (.cmp .eq (.var 4) (.op1 .max1 (.lc false [6] [6] (.e (.var 1)) (.bl true) (tells_b3))))) (.nil)))))))))), false⟩
def sides_b1 : Ex := (.op2 .starts (.op2 .ix (.var 1) (.var 8)) (.var 6))
def sides_b2 : Ex := (.op2 .ix (.var 2) (.var 8))
def sides_b3 : Sms := (.cons (.set 6 (.op2 .add (.var 4) (.op1 .strI (.var 5)))) (.cons (.set 7 (.lc false [8] [8] (.rng1 (.op1 .len (.var 2))) (sides_b1) (sides_b2))) (.cons (.ite (.not (.call 25 (.ex (.call 9 (.ex (.var 0) (.ex (.var 4) (.ex (.var 5) (.nil))))) (.ex (.var 7) (.nil))))) (.cons (.ret (.bl false)) (.nil)) (.nil)) (.nil))))
def sides_b4 : Sms := (.cons (.for [5] (.rng1 (.int 2)) (sides_b3)) (.nil))
def sides : Fn := ⟨3, 9, (.cons (.set 3 (.call 21 (.ex (.var 1) (.nil)))) (.cons (.ite (.not (.call 25 (.ex (.call 6 (.ex (.var 0) (.nil))) (.ex (.var 3) (.nil))))) (.cons (.ret (.bl false)) (.nil)) (.nil)) (.cons (.for [4] (.e (.var 3)) (sides_b4)) (.cons (.ret (.bl true)) (.nil))))), false⟩
def refused_b1 : Sms := (.cons (.ite (.cmp .ne (.call 24 (.ex (.int 5) (.ex (.var 1) (.ex (.var 8) (.ex (.call 12 (.ex (.var 0) (.ex (.int 2) (.nil)))) (.nil)))))) (.tup (.cons (.int 3) (.cons (.var 8) (.nil))))) (.cons (.ret (.bl false)) (.nil)) (.nil)) (.nil))
def refused : Fn := ⟨4, 9, (.cons (.ite (.cmp .ne (.call 24 (.ex (.int 2) (.ex (.var 1) (.ex (.var 3) (.ex (.int 0) (.nil)))))) (.tup (.cons (.int 2) (.cons (.var 3) (.nil))))) (.cons (.ret (.bl false)) (.nil)) (.nil)) (.cons (.set 4 (.op2 .ix (.var 2) (.call 12 (.ex (.var 0) (.ex (.op1 .len (.var 2)) (.nil)))))) (.cons (.set 5 (.call 12 (.ex (.var 0) (.ex (.op2 .add (.op1 .len (.var 4)) (.int 1)) (.nil))))) (.cons (.set 6 (.op2 .ix (.str [50, 97, 120]) (.call 12 (.ex (.var 0) (.ex (.int 3) (.nil)))))) (.cons (.set 7 (.op1 .strI (.call 12 (.ex (.var 0) (.ex (.int 2) (.nil)))))) (.cons (.for [8] (.e (.lst false (.cons (.var 4) (.cons (.op2 .add (.var 4) (.var 7)) (.cons (.op2 .add (.op2 .add (.op2 .slU (.var 4) (.var 5)) (.var 6)) (.op2 .slL (.var 4) (.var 5))) (.nil)))))) (refused_b1)) (.cons (.ret (.bl true)) (.nil)))))))), false⟩
def round_b1 : Sms := (.cons (.set 11 (.var 9)) (.cons (.ite (.cmp .eq (.var 10) (.int 2)) (.cons (.set 11 (.var 8)) (.nil)) (.nil)) (.cons (.ite (.cmp .ne (.call 24 (.ex (.var 10) (.ex (.var 7) (.ex (.var 11) (.ex (.call 12 (.ex (.var 0) (.ex (.int 2) (.nil)))) (.nil)))))) (.tup (.cons (.int 1) (.cons (.str []) (.nil))))) (.cons (.ret (.bl false)) (.nil)) (.nil)) (.nil))))
def round : Fn := ⟨1, 12, (.cons (.set 1 (.call 13 (.ex (.var 0) (.nil)))) (.cons (.set 2 (.call 15 (.ex (.var 0) (.ex (.op2 .add (.var 1) (.int 2)) (.nil))))) (.cons (.set 3 (.op2 .ix (.var 2) (.var 1))) (.cons (.set 4 (.op2 .ix (.var 2) (.op2 .add (.var 1) (.int 1)))) (.cons (.set 2 (.op2 .slU (.var 2) (.var 1))) (.cons (.set 5 (.call 16 (.ex (.var 0) (.ex (.var 1) (.nil))))) (.cons (.set 6 (.call 18 (.ex (.var 5) (.ex (.var 2) (.nil))))) (.cons (.ite (.or (.not (.call 26 (.ex (.var 6) (.ex (.var 5) (.ex (.var 2) (.nil)))))) (.not (.call 27 (.ex (.var 6) (.ex (.var 5) (.ex (.var 2) (.nil))))))) (.cons (.ret (.bl false)) (.nil)) (.nil)) (.cons (.ite (.not (.call 28 (.ex (.var 0) (.ex (.var 6) (.ex (.var 5) (.ex (.var 3) (.nil))))))) (.cons (.ret (.bl false)) (.nil)) (.nil)) (.cons (.set 7 (.call 22 (.ex (.var 0) (.ex (.var 5) (.ex (.var 2) (.ex (.var 3) (.ex (.var 4) (.nil)))))))) (.cons (.ite (.cmp .isnot (.call 1 (.ex (.var 7) (.nil))) (.bl false)) (.cons (.ret (.bl false)) (.nil)) (.nil)) (.cons (.set 8 (.op2 .ix (.tup (.cons (.op2 .ix (.var 2) (.int 0)) (.cons (.var 3) (.cons (.str []) (.nil))))) (.call 12 (.ex (.var 0) (.ex (.int 3) (.nil)))))) (.cons (.set 9 (.op2 .ix (.tup (.cons (.str []) (.cons (.op2 .ix (.var 5) (.int 0)) (.cons (.str [51]) (.nil))))) (.call 12 (.ex (.var 0) (.ex (.int 3) (.nil)))))) (.cons (.for [10] (.rng1 (.int 6)) (round_b1)) (.cons (.ret (.bl true)) (.nil)))))))))))))))), false⟩
def law_b1 : Sms := (.cons (.ite (.not (.call 29 (.ex (.call 10 (.ex (.var 0) (.ex (.var 1) (.nil)))) (.nil)))) (.cons (.ret (.bl false)) (.nil)) (.nil)) (.nil))
def law : Fn := ⟨1, 2, (.cons (.for [1] (.rng1 (.op2 .min2 (.int 5) (.op2 .add (.int 1) (.op1 .len (.var 0))))) (law_b1)) (.cons (.ret (.bl true)) (.nil))), false⟩
end C3
structure Tb3 (T : Tb) : Prop where
  f0 : T.fn 0 = some (Cm.is_name 0)
  f1 : T.fn 1 = some (Cm.is_tree 0 1)
  f2 : T.fn 2 = some (Cm.parts_of 1 2)
  f3 : T.fn 3 = some (Cm.leaf_names 2)
  f4 : T.fn 4 = some (Cm.ways_of 2)
  f5 : T.fn 5 = some (Cm.way_of 4 3)
  f6 : T.fn 6 = some (Cm.forks_of 2)
  f7 : T.fn 7 = some (Cm.check_fork 6 5)
  f8 : T.fn 8 = some (Cm.height_of 2)
  f9 : T.fn 9 = some (Cm.names_beneath 7 4)
  f10 : T.fn 10 = some C3.bag
  f11 : T.fn 11 = some Cm.mixed
  f12 : T.fn 12 = some (Cm.draw 11)
  f13 : T.fn 13 = some (Cm.count 12)
  f14 : T.fn 14 = some (Cm.name 12)
  f15 : T.fn 15 = some (Cm.names 12 14)
  f16 : T.fn 16 = some (Cm.ways 12)
  f17 : T.fn 17 = some (Cm.tree 17)
  f18 : T.fn 18 = some (Cm.made 17)
  f19 : T.fn 19 = some C3.odd_leaf
  f20 : T.fn 20 = some C3.odd_fork
  f21 : T.fn 21 = some Cm.forks
  f22 : T.fn 22 = some C3.no_tree
  f23 : T.fn 23 = some C3.told
  f24 : T.fn 24 = some C3.ask
  f25 : T.fn 25 = some C3.texts
  f26 : T.fn 26 = some C3.tells
  f27 : T.fn 27 = some C3.sides
  f28 : T.fn 28 = some C3.refused
  f29 : T.fn 29 = some C3.round
  f30 : T.fn 30 = some C3.law
  g0 : T.glo 0 = some (.int 8)
  g1 : T.glo 1 = some (.int 12)
  x2 : T.exn 2 = ([], 0)
  x3 : T.exn 3 = ([1], 1)
  x5 : T.exn 5 = ([2], 1)
  s2 : T.sub 2 0 = true ∧ T.sub 2 2 = true ∧ T.sub 2 3 = false ∧ T.sub 2 5 = false ∧ T.sub 2 1 = false ∧ T.sub 2 4 = false ∧ T.sub 2 6 = false
  s3 : T.sub 3 0 = true ∧ T.sub 3 2 = false ∧ T.sub 3 3 = true ∧ T.sub 3 5 = false ∧ T.sub 3 1 = false ∧ T.sub 3 4 = false ∧ T.sub 3 6 = false
  s5 : T.sub 5 0 = true ∧ T.sub 5 2 = false ∧ T.sub 5 3 = false ∧ T.sub 5 5 = true ∧ T.sub 5 1 = false ∧ T.sub 5 4 = false ∧ T.sub 5 6 = false
  v : ∀ c, T.sve c = true
def Tb3.trees {T : Tb} (K : Tb3 T) : Trees T := ⟨0, 1, 2, 0, 1, 2, 0, K.f0, K.f1, K.f2, K.g0, K.g1, K.x2⟩
theorem Tb3.draws {T : Tb} (K : Tb3 T) : IsDraw T 12 := ⟨11, K.f12, K.f11⟩

theorem evH_cons {T : Tb} {n m c0 i : Nat} {b : Sms} {r : Hs} {c : Nat} {ns : List Nat} {vs : List D} {σ : Env} {h : Hb} : evH (cfN T n false m) (.cons c0 i b r) c ns vs σ h =
    if T.sub c c0 then
      match evSs (cfN T n true m) b (σ.set i (some (.x c ns vs))) h with
      | .nx σ' h' => if noXE (σ'.set i none) then .nx (σ'.set i none) h' else .st
      | .rt d h' => .rt d h'
      | _ => .st
    else evH (cfN T n false m) r c ns vs σ h := by
  rw [evH]
  rfl
section
variable {T : Tb} (K : Tb3 T)
include K

theorem told2 {n mc : Nat} {h : Hb} (hn : 1 ≤ n) : callN T n true mc 23 [.x 2 [] []] h = .ok (.tup [.int 1, .str []]) h := by
  obtain ⟨n, rfl⟩ : ∃ k, n = k + 1 := ⟨n - 1, by omega⟩
  rw [callH K.f23 rfl rfl]
  obtain ⟨a0, a2, a3, a5, a1, a4, a6⟩ := K.s2
  simp -implicitDefEqProofs -dsimp only [C3.told, Out.andThen_nx, Out.andThen_rt, Out.andThen_ex, Out.andThen_st, R.bind_ok, R.bind_ex, R.bind_st, R.nox_ok, fromR_ok, fromR_ex, fromR_st, bnd_ok, bnd_ex, bnd_st, frm_ok, frm_ex, frm_st, thn_nx, thn_rt, thn_ex, thn_st, trO_ex, trO_nx, trO_rt, e_var, e_non, e_bl, e_int, e_str, e_glo, e_op1, e_op2, e_op3, e_cmp, e_cmp3, e_and, e_or, e_not, e_ite, e_tup, e_lst, e_dct0, e_set0, e_call, e_new, e_fld, e_lc, e_dc, e_isE, e_isV, e_atE, t_cmp, t_cmp3, t_and, t_or, t_not, t_ite, t_var, t_bl, t_op1, t_op2, t_call, t_fld, t_isE, t_isV, x_nil, x_cons, a_nil, a_ex, a_ec, r_e, r_rng1, r_rng2, s_expr, s_set, s_unp, s_seti, s_setf, s_ret, s_raise, s_ite, s_whl, s_for, s_tr, s_pass, ss_nil, ss_cons, getV, optV, List.getElem?_cons_zero, List.getElem?_cons_succ, List.set_cons_zero, List.set_cons_succ, startE, List.map_cons, List.map_nil, List.length_cons, List.length_nil, List.cons_append, List.nil_append, recv, sem1, sem2, optB, truthR, truth, seqL, isI, calm1, calm2, cfN_hot, cfN_m, cfN_call, cfN_glo, cfN_sub, cfN_sve, cfN_exn, Bool.false_and, Bool.true_and, Bool.and_true, Bool.and_false, Bool.or_true, Bool.true_or, Bool.or_false, Bool.false_or, Bool.not_true, Bool.not_false, if_true, if_false, Bool.false_eq_true, reduceIte, Option.map_some, Option.map_none, reduceCtorEq, ixD, atI_0, atI_1, atI_2, atI_3, atI_4, atI_5, atI_6, atI_7, atI_8, atI_9, atI_10, atI_11, atI_12, atI_nat', decide_true, decide_false, Bool.and_self, Option.isSome_some, Option.isSome_none, eqD_int, eqD_str, List.append_nil, stays_lst', stays_non', stays_tup', stays_str', stays_dic', wipeE, List.foldr_cons, List.foldr_nil, setV, mkL, mkD, items, lineN, Nat.reduceLeDiff,  List.reduceReplicate, Nat.reduceAdd, Nat.reduceSub, getX, a0, a1, a2, a3, a4, a5, a6, K.v, flat, List.all_cons, List.all_nil, eqv, List.countP_cons, List.countP_nil, beq_self_eq_true, show (false == true) = false from rfl, show (((0 + 1 : Nat) : Int) = 1) = True by simp, show (((1 : Nat) : Int) = 1) = True by simp]
  exact exit_rt rfl (List.take_of_length_le (Nat.le_refl _))
theorem told3 {x : Cs} {n mc : Nat} {h : Hb} (hn : 1 ≤ n) : callN T n true mc 23 [.x 3 [1] [.str x]] h = .ok (.tup [.int 2, .str x]) h := by
  obtain ⟨n, rfl⟩ : ∃ k, n = k + 1 := ⟨n - 1, by omega⟩
  rw [callH K.f23 rfl rfl]
  obtain ⟨a0, a2, a3, a5, a1, a4, a6⟩ := K.s3
  simp -implicitDefEqProofs -dsimp only [C3.told, Out.andThen_nx, Out.andThen_rt, Out.andThen_ex, Out.andThen_st, R.bind_ok, R.bind_ex, R.bind_st, R.nox_ok, fromR_ok, fromR_ex, fromR_st, bnd_ok, bnd_ex, bnd_st, frm_ok, frm_ex, frm_st, thn_nx, thn_rt, thn_ex, thn_st, trO_ex, trO_nx, trO_rt, e_var, e_non, e_bl, e_int, e_str, e_glo, e_op1, e_op2, e_op3, e_cmp, e_cmp3, e_and, e_or, e_not, e_ite, e_tup, e_lst, e_dct0, e_set0, e_call, e_new, e_fld, e_lc, e_dc, e_isE, e_isV, e_atE, t_cmp, t_cmp3, t_and, t_or, t_not, t_ite, t_var, t_bl, t_op1, t_op2, t_call, t_fld, t_isE, t_isV, x_nil, x_cons, a_nil, a_ex, a_ec, r_e, r_rng1, r_rng2, s_expr, s_set, s_unp, s_seti, s_setf, s_ret, s_raise, s_ite, s_whl, s_for, s_tr, s_pass, ss_nil, ss_cons, getV, optV, List.getElem?_cons_zero, List.getElem?_cons_succ, List.set_cons_zero, List.set_cons_succ, startE, List.map_cons, List.map_nil, List.length_cons, List.length_nil, List.cons_append, List.nil_append, recv, sem1, sem2, optB, truthR, truth, seqL, isI, calm1, calm2, cfN_hot, cfN_m, cfN_call, cfN_glo, cfN_sub, cfN_sve, cfN_exn, Bool.false_and, Bool.true_and, Bool.and_true, Bool.and_false, Bool.or_true, Bool.true_or, Bool.or_false, Bool.false_or, Bool.not_true, Bool.not_false, if_true, if_false, Bool.false_eq_true, reduceIte, Option.map_some, Option.map_none, reduceCtorEq, ixD, atI_0, atI_1, atI_2, atI_3, atI_4, atI_5, atI_6, atI_7, atI_8, atI_9, atI_10, atI_11, atI_12, atI_nat', decide_true, decide_false, Bool.and_self, Option.isSome_some, Option.isSome_none, eqD_int, eqD_str, List.append_nil, stays_lst', stays_non', stays_tup', stays_str', stays_dic', wipeE, List.foldr_cons, List.foldr_nil, setV, mkL, mkD, items, lineN, Nat.reduceLeDiff,  List.reduceReplicate, Nat.reduceAdd, Nat.reduceSub, getX, a0, a1, a2, a3, a4, a5, a6, K.v, flat, List.all_cons, List.all_nil, eqv, List.countP_cons, List.countP_nil, beq_self_eq_true, show (false == true) = false from rfl, show (((0 + 1 : Nat) : Int) = 1) = True by simp, show (((1 : Nat) : Int) = 1) = True by simp, List.zip_cons_cons, List.zip_nil_left, List.lookup]
  exact exit_rt rfl (List.take_of_length_le (Nat.le_refl _))
theorem told5 {x : Cs} {n mc : Nat} {h : Hb} (hn : 1 ≤ n) : callN T n true mc 23 [.x 5 [2] [.str x]] h = .ok (.tup [.int 3, .str x]) h := by
  obtain ⟨n, rfl⟩ : ∃ k, n = k + 1 := ⟨n - 1, by omega⟩
  rw [callH K.f23 rfl rfl]
  obtain ⟨a0, a2, a3, a5, a1, a4, a6⟩ := K.s5
  simp -implicitDefEqProofs -dsimp only [C3.told, Out.andThen_nx, Out.andThen_rt, Out.andThen_ex, Out.andThen_st, R.bind_ok, R.bind_ex, R.bind_st, R.nox_ok, fromR_ok, fromR_ex, fromR_st, bnd_ok, bnd_ex, bnd_st, frm_ok, frm_ex, frm_st, thn_nx, thn_rt, thn_ex, thn_st, trO_ex, trO_nx, trO_rt, e_var, e_non, e_bl, e_int, e_str, e_glo, e_op1, e_op2, e_op3, e_cmp, e_cmp3, e_and, e_or, e_not, e_ite, e_tup, e_lst, e_dct0, e_set0, e_call, e_new, e_fld, e_lc, e_dc, e_isE, e_isV, e_atE, t_cmp, t_cmp3, t_and, t_or, t_not, t_ite, t_var, t_bl, t_op1, t_op2, t_call, t_fld, t_isE, t_isV, x_nil, x_cons, a_nil, a_ex, a_ec, r_e, r_rng1, r_rng2, s_expr, s_set, s_unp, s_seti, s_setf, s_ret, s_raise, s_ite, s_whl, s_for, s_tr, s_pass, ss_nil, ss_cons, getV, optV, List.getElem?_cons_zero, List.getElem?_cons_succ, List.set_cons_zero, List.set_cons_succ, startE, List.map_cons, List.map_nil, List.length_cons, List.length_nil, List.cons_append, List.nil_append, recv, sem1, sem2, optB, truthR, truth, seqL, isI, calm1, calm2, cfN_hot, cfN_m, cfN_call, cfN_glo, cfN_sub, cfN_sve, cfN_exn, Bool.false_and, Bool.true_and, Bool.and_true, Bool.and_false, Bool.or_true, Bool.true_or, Bool.or_false, Bool.false_or, Bool.not_true, Bool.not_false, if_true, if_false, Bool.false_eq_true, reduceIte, Option.map_some, Option.map_none, reduceCtorEq, ixD, atI_0, atI_1, atI_2, atI_3, atI_4, atI_5, atI_6, atI_7, atI_8, atI_9, atI_10, atI_11, atI_12, atI_nat', decide_true, decide_false, Bool.and_self, Option.isSome_some, Option.isSome_none, eqD_int, eqD_str, List.append_nil, stays_lst', stays_non', stays_tup', stays_str', stays_dic', wipeE, List.foldr_cons, List.foldr_nil, setV, mkL, mkD, items, lineN, Nat.reduceLeDiff,  List.reduceReplicate, Nat.reduceAdd, Nat.reduceSub, getX, a0, a1, a2, a3, a4, a5, a6, K.v, flat, List.all_cons, List.all_nil, eqv, List.countP_cons, List.countP_nil, beq_self_eq_true, show (false == true) = false from rfl, show (((0 + 1 : Nat) : Int) = 1) = True by simp, show (((1 : Nat) : Int) = 1) = True by simp, List.zip_cons_cons, List.zip_nil_left, List.lookup]
  exact exit_rt rfl (List.take_of_length_le (Nat.le_refl _))

/-- a value that is no tree -/
structure NoTr (d : D) : Prop where
  ok : okd d
  sz : nodes d ≤ 1000000
  no : isTr d = false
theorem ask_no {d : D} (N : NoTr d) {k : Nat} (hk : k < 6) {w : Cs} {s : D} {n mc : Nat} {h : Hb} (hn : 8 ≤ n) : callN T n false mc 24 [.v (.int k), .v d, .v (.str w), .v s] h = .ok (.tup [.int 1, .str []]) h := by
  obtain ⟨n, rfl⟩ : ∃ k, n = k + 1 := ⟨n - 1, by omega⟩
  rw [callF K.f24 rfl rfl rfl]
  have t2 := told2 K (n := n) (mc := h.length) (h := h) (by omega)
  have e3 := leaf_no K.trees K.f3 N.ok N.sz N.no (n := n) (mc := h.length) (h := h) (by omega)
  have e4 := ways_of_no K.trees K.f4 N.ok N.sz N.no (n := n) (mc := h.length) (h := h) (by omega)
  have e5 := way_of_no K.trees K.f4 K.f5 (w := .str w) N.ok N.sz N.no (n := n) (mc := h.length) (h := h) (by omega)
  have e6 := forks_of_no K.trees K.f6 N.ok N.sz N.no (n := n) (mc := h.length) (h := h) (by omega)
  have e8 := height_no K.trees K.f8 N.ok N.sz N.no (n := n) (mc := h.length) (h := h) (by omega)
  have e9 := ben_no K.trees K.f6 K.f7 K.f9 (w := .str w) (s := s) N.ok N.sz N.no (n := n) (mc := h.length) (h := h) (by omega)
  have xT : K.trees.xT = 2 := rfl
  rw [xT] at e3 e4 e5 e6 e8 e9
  have fin : exitF false h.length (.rt (.tup [.int 1, .str []]) h) = .ok (.tup [.int 1, .str []]) h := exit_rt rfl (List.take_of_length_le (Nat.le_refl _))
  have lit : ∀ a b : Nat, a ≠ b → (((a : Nat) : Int) = ((b : Nat) : Int)) = False := fun a b e => by simp; omega
  match k, hk with
  | 0, _ => simp -implicitDefEqProofs -dsimp only [C3.ask, Out.andThen_nx, Out.andThen_rt, Out.andThen_ex, Out.andThen_st, R.bind_ok, R.bind_ex, R.bind_st, R.nox_ok, fromR_ok, fromR_ex, fromR_st, bnd_ok, bnd_ex, bnd_st, frm_ok, frm_ex, frm_st, thn_nx, thn_rt, thn_ex, thn_st, trO_ex, trO_nx, trO_rt, e_var, e_non, e_bl, e_int, e_str, e_glo, e_op1, e_op2, e_op3, e_cmp, e_cmp3, e_and, e_or, e_not, e_ite, e_tup, e_lst, e_dct0, e_set0, e_call, e_new, e_fld, e_lc, e_dc, e_isE, e_isV, e_atE, t_cmp, t_cmp3, t_and, t_or, t_not, t_ite, t_var, t_bl, t_op1, t_op2, t_call, t_fld, t_isE, t_isV, x_nil, x_cons, a_nil, a_ex, a_ec, r_e, r_rng1, r_rng2, s_expr, s_set, s_unp, s_seti, s_setf, s_ret, s_raise, s_ite, s_whl, s_for, s_tr, s_pass, ss_nil, ss_cons, getV, optV, List.getElem?_cons_zero, List.getElem?_cons_succ, List.set_cons_zero, List.set_cons_succ, startE, List.map_cons, List.map_nil, List.length_cons, List.length_nil, List.cons_append, List.nil_append, recv, sem1, sem2, optB, truthR, truth, seqL, isI, calm1, calm2, cfN_hot, cfN_m, cfN_call, cfN_glo, cfN_sub, cfN_sve, cfN_exn, Bool.false_and, Bool.true_and, Bool.and_true, Bool.and_false, Bool.or_true, Bool.true_or, Bool.or_false, Bool.false_or, Bool.not_true, Bool.not_false, if_true, if_false, Bool.false_eq_true, reduceIte, Option.map_some, Option.map_none, reduceCtorEq, ixD, atI_0, atI_1, atI_2, atI_3, atI_4, atI_5, atI_6, atI_7, atI_8, atI_9, atI_10, atI_11, atI_12, atI_nat', decide_true, decide_false, Bool.and_self, Option.isSome_some, Option.isSome_none, eqD_int, eqD_str, List.append_nil, stays_lst', stays_non', stays_tup', stays_str', stays_dic', wipeE, List.foldr_cons, List.foldr_nil, setV, mkL, mkD, items, lineN, Nat.reduceLeDiff,  List.reduceReplicate, Nat.reduceAdd, Nat.reduceSub, evH_cons, K.s2.1, getX, e3, t2, show (((0 : Nat) : Int) = 0) = True by simp]; exact fin
  | 1, _ => simp -implicitDefEqProofs -dsimp only [C3.ask, Out.andThen_nx, Out.andThen_rt, Out.andThen_ex, Out.andThen_st, R.bind_ok, R.bind_ex, R.bind_st, R.nox_ok, fromR_ok, fromR_ex, fromR_st, bnd_ok, bnd_ex, bnd_st, frm_ok, frm_ex, frm_st, thn_nx, thn_rt, thn_ex, thn_st, trO_ex, trO_nx, trO_rt, e_var, e_non, e_bl, e_int, e_str, e_glo, e_op1, e_op2, e_op3, e_cmp, e_cmp3, e_and, e_or, e_not, e_ite, e_tup, e_lst, e_dct0, e_set0, e_call, e_new, e_fld, e_lc, e_dc, e_isE, e_isV, e_atE, t_cmp, t_cmp3, t_and, t_or, t_not, t_ite, t_var, t_bl, t_op1, t_op2, t_call, t_fld, t_isE, t_isV, x_nil, x_cons, a_nil, a_ex, a_ec, r_e, r_rng1, r_rng2, s_expr, s_set, s_unp, s_seti, s_setf, s_ret, s_raise, s_ite, s_whl, s_for, s_tr, s_pass, ss_nil, ss_cons, getV, optV, List.getElem?_cons_zero, List.getElem?_cons_succ, List.set_cons_zero, List.set_cons_succ, startE, List.map_cons, List.map_nil, List.length_cons, List.length_nil, List.cons_append, List.nil_append, recv, sem1, sem2, optB, truthR, truth, seqL, isI, calm1, calm2, cfN_hot, cfN_m, cfN_call, cfN_glo, cfN_sub, cfN_sve, cfN_exn, Bool.false_and, Bool.true_and, Bool.and_true, Bool.and_false, Bool.or_true, Bool.true_or, Bool.or_false, Bool.false_or, Bool.not_true, Bool.not_false, if_true, if_false, Bool.false_eq_true, reduceIte, Option.map_some, Option.map_none, reduceCtorEq, ixD, atI_0, atI_1, atI_2, atI_3, atI_4, atI_5, atI_6, atI_7, atI_8, atI_9, atI_10, atI_11, atI_12, atI_nat', decide_true, decide_false, Bool.and_self, Option.isSome_some, Option.isSome_none, eqD_int, eqD_str, List.append_nil, stays_lst', stays_non', stays_tup', stays_str', stays_dic', wipeE, List.foldr_cons, List.foldr_nil, setV, mkL, mkD, items, lineN, Nat.reduceLeDiff,  List.reduceReplicate, Nat.reduceAdd, Nat.reduceSub, evH_cons, K.s2.1, getX, e4, t2, show (((1 : Nat) : Int) = 0) = False by simp, show (((1 : Nat) : Int) = 1) = True by simp]; exact fin
  | 2, _ => simp -implicitDefEqProofs -dsimp only [C3.ask, Out.andThen_nx, Out.andThen_rt, Out.andThen_ex, Out.andThen_st, R.bind_ok, R.bind_ex, R.bind_st, R.nox_ok, fromR_ok, fromR_ex, fromR_st, bnd_ok, bnd_ex, bnd_st, frm_ok, frm_ex, frm_st, thn_nx, thn_rt, thn_ex, thn_st, trO_ex, trO_nx, trO_rt, e_var, e_non, e_bl, e_int, e_str, e_glo, e_op1, e_op2, e_op3, e_cmp, e_cmp3, e_and, e_or, e_not, e_ite, e_tup, e_lst, e_dct0, e_set0, e_call, e_new, e_fld, e_lc, e_dc, e_isE, e_isV, e_atE, t_cmp, t_cmp3, t_and, t_or, t_not, t_ite, t_var, t_bl, t_op1, t_op2, t_call, t_fld, t_isE, t_isV, x_nil, x_cons, a_nil, a_ex, a_ec, r_e, r_rng1, r_rng2, s_expr, s_set, s_unp, s_seti, s_setf, s_ret, s_raise, s_ite, s_whl, s_for, s_tr, s_pass, ss_nil, ss_cons, getV, optV, List.getElem?_cons_zero, List.getElem?_cons_succ, List.set_cons_zero, List.set_cons_succ, startE, List.map_cons, List.map_nil, List.length_cons, List.length_nil, List.cons_append, List.nil_append, recv, sem1, sem2, optB, truthR, truth, seqL, isI, calm1, calm2, cfN_hot, cfN_m, cfN_call, cfN_glo, cfN_sub, cfN_sve, cfN_exn, Bool.false_and, Bool.true_and, Bool.and_true, Bool.and_false, Bool.or_true, Bool.true_or, Bool.or_false, Bool.false_or, Bool.not_true, Bool.not_false, if_true, if_false, Bool.false_eq_true, reduceIte, Option.map_some, Option.map_none, reduceCtorEq, ixD, atI_0, atI_1, atI_2, atI_3, atI_4, atI_5, atI_6, atI_7, atI_8, atI_9, atI_10, atI_11, atI_12, atI_nat', decide_true, decide_false, Bool.and_self, Option.isSome_some, Option.isSome_none, eqD_int, eqD_str, List.append_nil, stays_lst', stays_non', stays_tup', stays_str', stays_dic', wipeE, List.foldr_cons, List.foldr_nil, setV, mkL, mkD, items, lineN, Nat.reduceLeDiff,  List.reduceReplicate, Nat.reduceAdd, Nat.reduceSub, evH_cons, K.s2.1, getX, e5, t2, show (((2 : Nat) : Int) = 0) = False by simp, show (((2 : Nat) : Int) = 1) = False by simp, show (((2 : Nat) : Int) = 2) = True by simp]; exact fin
  | 3, _ => simp -implicitDefEqProofs -dsimp only [C3.ask, Out.andThen_nx, Out.andThen_rt, Out.andThen_ex, Out.andThen_st, R.bind_ok, R.bind_ex, R.bind_st, R.nox_ok, fromR_ok, fromR_ex, fromR_st, bnd_ok, bnd_ex, bnd_st, frm_ok, frm_ex, frm_st, thn_nx, thn_rt, thn_ex, thn_st, trO_ex, trO_nx, trO_rt, e_var, e_non, e_bl, e_int, e_str, e_glo, e_op1, e_op2, e_op3, e_cmp, e_cmp3, e_and, e_or, e_not, e_ite, e_tup, e_lst, e_dct0, e_set0, e_call, e_new, e_fld, e_lc, e_dc, e_isE, e_isV, e_atE, t_cmp, t_cmp3, t_and, t_or, t_not, t_ite, t_var, t_bl, t_op1, t_op2, t_call, t_fld, t_isE, t_isV, x_nil, x_cons, a_nil, a_ex, a_ec, r_e, r_rng1, r_rng2, s_expr, s_set, s_unp, s_seti, s_setf, s_ret, s_raise, s_ite, s_whl, s_for, s_tr, s_pass, ss_nil, ss_cons, getV, optV, List.getElem?_cons_zero, List.getElem?_cons_succ, List.set_cons_zero, List.set_cons_succ, startE, List.map_cons, List.map_nil, List.length_cons, List.length_nil, List.cons_append, List.nil_append, recv, sem1, sem2, optB, truthR, truth, seqL, isI, calm1, calm2, cfN_hot, cfN_m, cfN_call, cfN_glo, cfN_sub, cfN_sve, cfN_exn, Bool.false_and, Bool.true_and, Bool.and_true, Bool.and_false, Bool.or_true, Bool.true_or, Bool.or_false, Bool.false_or, Bool.not_true, Bool.not_false, if_true, if_false, Bool.false_eq_true, reduceIte, Option.map_some, Option.map_none, reduceCtorEq, ixD, atI_0, atI_1, atI_2, atI_3, atI_4, atI_5, atI_6, atI_7, atI_8, atI_9, atI_10, atI_11, atI_12, atI_nat', decide_true, decide_false, Bool.and_self, Option.isSome_some, Option.isSome_none, eqD_int, eqD_str, List.append_nil, stays_lst', stays_non', stays_tup', stays_str', stays_dic', wipeE, List.foldr_cons, List.foldr_nil, setV, mkL, mkD, items, lineN, Nat.reduceLeDiff,  List.reduceReplicate, Nat.reduceAdd, Nat.reduceSub, evH_cons, K.s2.1, getX, e6, t2, show (((3 : Nat) : Int) = 0) = False by simp, show (((3 : Nat) : Int) = 1) = False by simp, show (((3 : Nat) : Int) = 2) = False by simp, show (((3 : Nat) : Int) = 3) = True by simp]; exact fin
  | 4, _ => simp -implicitDefEqProofs -dsimp only [C3.ask, Out.andThen_nx, Out.andThen_rt, Out.andThen_ex, Out.andThen_st, R.bind_ok, R.bind_ex, R.bind_st, R.nox_ok, fromR_ok, fromR_ex, fromR_st, bnd_ok, bnd_ex, bnd_st, frm_ok, frm_ex, frm_st, thn_nx, thn_rt, thn_ex, thn_st, trO_ex, trO_nx, trO_rt, e_var, e_non, e_bl, e_int, e_str, e_glo, e_op1, e_op2, e_op3, e_cmp, e_cmp3, e_and, e_or, e_not, e_ite, e_tup, e_lst, e_dct0, e_set0, e_call, e_new, e_fld, e_lc, e_dc, e_isE, e_isV, e_atE, t_cmp, t_cmp3, t_and, t_or, t_not, t_ite, t_var, t_bl, t_op1, t_op2, t_call, t_fld, t_isE, t_isV, x_nil, x_cons, a_nil, a_ex, a_ec, r_e, r_rng1, r_rng2, s_expr, s_set, s_unp, s_seti, s_setf, s_ret, s_raise, s_ite, s_whl, s_for, s_tr, s_pass, ss_nil, ss_cons, getV, optV, List.getElem?_cons_zero, List.getElem?_cons_succ, List.set_cons_zero, List.set_cons_succ, startE, List.map_cons, List.map_nil, List.length_cons, List.length_nil, List.cons_append, List.nil_append, recv, sem1, sem2, optB, truthR, truth, seqL, isI, calm1, calm2, cfN_hot, cfN_m, cfN_call, cfN_glo, cfN_sub, cfN_sve, cfN_exn, Bool.false_and, Bool.true_and, Bool.and_true, Bool.and_false, Bool.or_true, Bool.true_or, Bool.or_false, Bool.false_or, Bool.not_true, Bool.not_false, if_true, if_false, Bool.false_eq_true, reduceIte, Option.map_some, Option.map_none, reduceCtorEq, ixD, atI_0, atI_1, atI_2, atI_3, atI_4, atI_5, atI_6, atI_7, atI_8, atI_9, atI_10, atI_11, atI_12, atI_nat', decide_true, decide_false, Bool.and_self, Option.isSome_some, Option.isSome_none, eqD_int, eqD_str, List.append_nil, stays_lst', stays_non', stays_tup', stays_str', stays_dic', wipeE, List.foldr_cons, List.foldr_nil, setV, mkL, mkD, items, lineN, Nat.reduceLeDiff,  List.reduceReplicate, Nat.reduceAdd, Nat.reduceSub, evH_cons, K.s2.1, getX, e8, t2, show (((4 : Nat) : Int) = 0) = False by simp, show (((4 : Nat) : Int) = 1) = False by simp, show (((4 : Nat) : Int) = 2) = False by simp, show (((4 : Nat) : Int) = 3) = False by simp, show (((4 : Nat) : Int) = 4) = True by simp]; exact fin
  | 5, _ => simp -implicitDefEqProofs -dsimp only [C3.ask, Out.andThen_nx, Out.andThen_rt, Out.andThen_ex, Out.andThen_st, R.bind_ok, R.bind_ex, R.bind_st, R.nox_ok, fromR_ok, fromR_ex, fromR_st, bnd_ok, bnd_ex, bnd_st, frm_ok, frm_ex, frm_st, thn_nx, thn_rt, thn_ex, thn_st, trO_ex, trO_nx, trO_rt, e_var, e_non, e_bl, e_int, e_str, e_glo, e_op1, e_op2, e_op3, e_cmp, e_cmp3, e_and, e_or, e_not, e_ite, e_tup, e_lst, e_dct0, e_set0, e_call, e_new, e_fld, e_lc, e_dc, e_isE, e_isV, e_atE, t_cmp, t_cmp3, t_and, t_or, t_not, t_ite, t_var, t_bl, t_op1, t_op2, t_call, t_fld, t_isE, t_isV, x_nil, x_cons, a_nil, a_ex, a_ec, r_e, r_rng1, r_rng2, s_expr, s_set, s_unp, s_seti, s_setf, s_ret, s_raise, s_ite, s_whl, s_for, s_tr, s_pass, ss_nil, ss_cons, getV, optV, List.getElem?_cons_zero, List.getElem?_cons_succ, List.set_cons_zero, List.set_cons_succ, startE, List.map_cons, List.map_nil, List.length_cons, List.length_nil, List.cons_append, List.nil_append, recv, sem1, sem2, optB, truthR, truth, seqL, isI, calm1, calm2, cfN_hot, cfN_m, cfN_call, cfN_glo, cfN_sub, cfN_sve, cfN_exn, Bool.false_and, Bool.true_and, Bool.and_true, Bool.and_false, Bool.or_true, Bool.true_or, Bool.or_false, Bool.false_or, Bool.not_true, Bool.not_false, if_true, if_false, Bool.false_eq_true, reduceIte, Option.map_some, Option.map_none, reduceCtorEq, ixD, atI_0, atI_1, atI_2, atI_3, atI_4, atI_5, atI_6, atI_7, atI_8, atI_9, atI_10, atI_11, atI_12, atI_nat', decide_true, decide_false, Bool.and_self, Option.isSome_some, Option.isSome_none, eqD_int, eqD_str, List.append_nil, stays_lst', stays_non', stays_tup', stays_str', stays_dic', wipeE, List.foldr_cons, List.foldr_nil, setV, mkL, mkD, items, lineN, Nat.reduceLeDiff,  List.reduceReplicate, Nat.reduceAdd, Nat.reduceSub, evH_cons, K.s2.1, getX, e9, t2, show (((5 : Nat) : Int) = 0) = False by simp, show (((5 : Nat) : Int) = 1) = False by simp, show (((5 : Nat) : Int) = 2) = False by simp, show (((5 : Nat) : Int) = 3) = False by simp, show (((5 : Nat) : Int) = 4) = False by simp]; exact fin
theorem ask_unk {t : Tr} {ns : List Cs} (g : Good t ns) {x : Cs} (hm : x ∉ ns) {s : D} {n mc : Nat} {h : Hb} (hn : 8 ≤ n) : callN T n false mc 24 [.v (.int 2), .v t.val, .v (.str x), .v s] h = .ok (.tup [.int 2, .str x]) h := by
  obtain ⟨n, rfl⟩ : ∃ k, n = k + 1 := ⟨n - 1, by omega⟩
  rw [callF K.f24 rfl rfl rfl]
  have t2 := told3 K (x := x) (n := n) (mc := h.length) (h := h) (by omega)
  have e5 := way_of_unk K.trees K.f4 K.f5 K.x3 g hm (n := n) (mc := h.length) (h := h) (by omega)
  simp -implicitDefEqProofs -dsimp only [C3.ask, Out.andThen_nx, Out.andThen_rt, Out.andThen_ex, Out.andThen_st, R.bind_ok, R.bind_ex, R.bind_st, R.nox_ok, fromR_ok, fromR_ex, fromR_st, bnd_ok, bnd_ex, bnd_st, frm_ok, frm_ex, frm_st, thn_nx, thn_rt, thn_ex, thn_st, trO_ex, trO_nx, trO_rt, e_var, e_non, e_bl, e_int, e_str, e_glo, e_op1, e_op2, e_op3, e_cmp, e_cmp3, e_and, e_or, e_not, e_ite, e_tup, e_lst, e_dct0, e_set0, e_call, e_new, e_fld, e_lc, e_dc, e_isE, e_isV, e_atE, t_cmp, t_cmp3, t_and, t_or, t_not, t_ite, t_var, t_bl, t_op1, t_op2, t_call, t_fld, t_isE, t_isV, x_nil, x_cons, a_nil, a_ex, a_ec, r_e, r_rng1, r_rng2, s_expr, s_set, s_unp, s_seti, s_setf, s_ret, s_raise, s_ite, s_whl, s_for, s_tr, s_pass, ss_nil, ss_cons, getV, optV, List.getElem?_cons_zero, List.getElem?_cons_succ, List.set_cons_zero, List.set_cons_succ, startE, List.map_cons, List.map_nil, List.length_cons, List.length_nil, List.cons_append, List.nil_append, recv, sem1, sem2, optB, truthR, truth, seqL, isI, calm1, calm2, cfN_hot, cfN_m, cfN_call, cfN_glo, cfN_sub, cfN_sve, cfN_exn, Bool.false_and, Bool.true_and, Bool.and_true, Bool.and_false, Bool.or_true, Bool.true_or, Bool.or_false, Bool.false_or, Bool.not_true, Bool.not_false, if_true, if_false, Bool.false_eq_true, reduceIte, Option.map_some, Option.map_none, reduceCtorEq, ixD, atI_0, atI_1, atI_2, atI_3, atI_4, atI_5, atI_6, atI_7, atI_8, atI_9, atI_10, atI_11, atI_12, atI_nat', decide_true, decide_false, Bool.and_self, Option.isSome_some, Option.isSome_none, eqD_int, eqD_str, List.append_nil, stays_lst', stays_non', stays_tup', stays_str', stays_dic', wipeE, List.foldr_cons, List.foldr_nil, setV, mkL, mkD, items, lineN, Nat.reduceLeDiff,  List.reduceReplicate, Nat.reduceAdd, Nat.reduceSub, evH_cons, K.s3.1, getX, e5, t2, show ((2 : Int) = 0) = False by simp, show ((2 : Int) = 1) = False by simp]
  exact exit_rt rfl (List.take_of_length_le (Nat.le_refl _))
theorem ask_fork {t : Tr} {ns : List Cs} (g : Good t ns) {x : Cs} (hm : x ∉ t.fks) {s : D} {n mc : Nat} {h : Hb} (hn : 8 ≤ n) : callN T n false mc 24 [.v (.int 5), .v t.val, .v (.str x), .v s] h = .ok (.tup [.int 3, .str x]) h := by
  obtain ⟨n, rfl⟩ : ∃ k, n = k + 1 := ⟨n - 1, by omega⟩
  rw [callF K.f24 rfl rfl rfl]
  have t2 := told5 K (x := x) (n := n) (mc := h.length) (h := h) (by omega)
  have e5 := ben_unk K.trees K.f4 K.f6 K.f7 K.x5 K.f9 g (s := s) hm (n := n) (mc := h.length) (h := h) (by omega)
  simp -implicitDefEqProofs -dsimp only [C3.ask, Out.andThen_nx, Out.andThen_rt, Out.andThen_ex, Out.andThen_st, R.bind_ok, R.bind_ex, R.bind_st, R.nox_ok, fromR_ok, fromR_ex, fromR_st, bnd_ok, bnd_ex, bnd_st, frm_ok, frm_ex, frm_st, thn_nx, thn_rt, thn_ex, thn_st, trO_ex, trO_nx, trO_rt, e_var, e_non, e_bl, e_int, e_str, e_glo, e_op1, e_op2, e_op3, e_cmp, e_cmp3, e_and, e_or, e_not, e_ite, e_tup, e_lst, e_dct0, e_set0, e_call, e_new, e_fld, e_lc, e_dc, e_isE, e_isV, e_atE, t_cmp, t_cmp3, t_and, t_or, t_not, t_ite, t_var, t_bl, t_op1, t_op2, t_call, t_fld, t_isE, t_isV, x_nil, x_cons, a_nil, a_ex, a_ec, r_e, r_rng1, r_rng2, s_expr, s_set, s_unp, s_seti, s_setf, s_ret, s_raise, s_ite, s_whl, s_for, s_tr, s_pass, ss_nil, ss_cons, getV, optV, List.getElem?_cons_zero, List.getElem?_cons_succ, List.set_cons_zero, List.set_cons_succ, startE, List.map_cons, List.map_nil, List.length_cons, List.length_nil, List.cons_append, List.nil_append, recv, sem1, sem2, optB, truthR, truth, seqL, isI, calm1, calm2, cfN_hot, cfN_m, cfN_call, cfN_glo, cfN_sub, cfN_sve, cfN_exn, Bool.false_and, Bool.true_and, Bool.and_true, Bool.and_false, Bool.or_true, Bool.true_or, Bool.or_false, Bool.false_or, Bool.not_true, Bool.not_false, if_true, if_false, Bool.false_eq_true, reduceIte, Option.map_some, Option.map_none, reduceCtorEq, ixD, atI_0, atI_1, atI_2, atI_3, atI_4, atI_5, atI_6, atI_7, atI_8, atI_9, atI_10, atI_11, atI_12, atI_nat', decide_true, decide_false, Bool.and_self, Option.isSome_some, Option.isSome_none, eqD_int, eqD_str, List.append_nil, stays_lst', stays_non', stays_tup', stays_str', stays_dic', wipeE, List.foldr_cons, List.foldr_nil, setV, mkL, mkD, items, lineN, Nat.reduceLeDiff,  List.reduceReplicate, Nat.reduceAdd, Nat.reduceSub, evH_cons, K.s5.1, getX, e5, t2, show ((5 : Int) = 0) = False by simp, show ((5 : Int) = 1) = False by simp, show ((5 : Int) = 2) = False by simp, show ((5 : Int) = 3) = False by simp, show ((5 : Int) = 4) = False by simp]
  exact exit_rt rfl (List.take_of_length_le (Nat.le_refl _))

theorem texts_ok (xs : List Cs) (hl : xs.length ≤ 1000000) {n mc : Nat} {h : Hb} (hn : 1 ≤ n) : callN T n false mc 25 [.v (.lst (xs.map .str)), .v (.lst (xs.map .str))] h = .ok (.bl true) h := by
  obtain ⟨n, rfl⟩ : ∃ k, n = k + 1 := ⟨n - 1, by omega⟩
  rw [callF K.f25 rfl rfl rfl]
  have r1 : inR ((xs.map D.str).length : Int) = true := by unfold inR; exact decide_eq_true (by simp; omega)
  have z : lcGo [2] [some (.v (.lst (xs.map .str))), some (.v (.lst (xs.map .str))), none] (fun _ => true) (evT (cfN T n false h.length) (.bl true)) (evE (cfN T n false h.length) C3.texts_b1) (rngL 0 (xs.map D.str).length) [] h = .ok (((List.range (xs.map D.str).length).map fun _ => true).map .bl) h := by
    rw [lc_rng (fun _ => true) (fun _ => .bl true) (by unfold lineN; simp; omega) (by
      intro k hk
      simp only [List.length_map] at hk
      refine ⟨t_bl, fun _ => ?_⟩
      simp -implicitDefEqProofs -dsimp only [C3.texts_b1, Out.andThen_nx, Out.andThen_rt, Out.andThen_ex, Out.andThen_st, R.bind_ok, R.bind_ex, R.bind_st, R.nox_ok, fromR_ok, fromR_ex, fromR_st, bnd_ok, bnd_ex, bnd_st, frm_ok, frm_ex, frm_st, thn_nx, thn_rt, thn_ex, thn_st, trO_ex, trO_nx, trO_rt, e_var, e_non, e_bl, e_int, e_str, e_glo, e_op1, e_op2, e_op3, e_cmp, e_cmp3, e_and, e_or, e_not, e_ite, e_tup, e_lst, e_dct0, e_set0, e_call, e_new, e_fld, e_lc, e_dc, e_isE, e_isV, e_atE, t_cmp, t_cmp3, t_and, t_or, t_not, t_ite, t_var, t_bl, t_op1, t_op2, t_call, t_fld, t_isE, t_isV, x_nil, x_cons, a_nil, a_ex, a_ec, r_e, r_rng1, r_rng2, s_expr, s_set, s_unp, s_seti, s_setf, s_ret, s_raise, s_ite, s_whl, s_for, s_tr, s_pass, ss_nil, ss_cons, getV, optV, List.getElem?_cons_zero, List.getElem?_cons_succ, List.set_cons_zero, List.set_cons_succ, startE, List.map_cons, List.map_nil, List.length_cons, List.length_nil, List.cons_append, List.nil_append, recv, sem1, sem2, optB, truthR, truth, seqL, isI, calm1, calm2, cfN_hot, cfN_m, cfN_call, cfN_glo, cfN_sub, cfN_sve, cfN_exn, Bool.false_and, Bool.true_and, Bool.and_true, Bool.and_false, Bool.or_true, Bool.true_or, Bool.or_false, Bool.false_or, Bool.not_true, Bool.not_false, if_true, if_false, Bool.false_eq_true, reduceIte, Option.map_some, Option.map_none, reduceCtorEq, ixD, atI_0, atI_1, atI_2, atI_3, atI_4, atI_5, atI_6, atI_7, atI_8, atI_9, atI_10, atI_11, atI_12, atI_nat', decide_true, decide_false, Bool.and_self, Option.isSome_some, Option.isSome_none, eqD_int, eqD_str, List.append_nil, stays_lst', stays_non', stays_tup', stays_str', stays_dic', wipeE, List.foldr_cons, List.foldr_nil, setV, mkL, mkD, items, lineN, Nat.reduceLeDiff,  List.reduceReplicate, Nat.reduceAdd, Nat.reduceSub, List.getElem?_map, List.getElem?_eq_getElem hk, isTyV, tyOf, show decide (Ty.str = Ty.str) = true from rfl])]
    rw [List.filter_eq_self.2 (fun _ _ => rfl), List.map_map]
    rfl
  simp -implicitDefEqProofs -dsimp only [C3.texts, Out.andThen_nx, Out.andThen_rt, Out.andThen_ex, Out.andThen_st, R.bind_ok, R.bind_ex, R.bind_st, R.nox_ok, fromR_ok, fromR_ex, fromR_st, bnd_ok, bnd_ex, bnd_st, frm_ok, frm_ex, frm_st, thn_nx, thn_rt, thn_ex, thn_st, trO_ex, trO_nx, trO_rt, e_var, e_non, e_bl, e_int, e_str, e_glo, e_op1, e_op2, e_op3, e_cmp, e_cmp3, e_and, e_or, e_not, e_ite, e_tup, e_lst, e_dct0, e_set0, e_call, e_new, e_fld, e_lc, e_dc, e_isE, e_isV, e_atE, t_cmp, t_cmp3, t_and, t_or, t_not, t_ite, t_var, t_bl, t_op1, t_op2, t_call, t_fld, t_isE, t_isV, x_nil, x_cons, a_nil, a_ex, a_ec, r_e, r_rng1, r_rng2, s_expr, s_set, s_unp, s_seti, s_setf, s_ret, s_raise, s_ite, s_whl, s_for, s_tr, s_pass, ss_nil, ss_cons, getV, optV, List.getElem?_cons_zero, List.getElem?_cons_succ, List.set_cons_zero, List.set_cons_succ, startE, List.map_cons, List.map_nil, List.length_cons, List.length_nil, List.cons_append, List.nil_append, recv, sem1, sem2, optB, truthR, truth, seqL, isI, calm1, calm2, cfN_hot, cfN_m, cfN_call, cfN_glo, cfN_sub, cfN_sve, cfN_exn, Bool.false_and, Bool.true_and, Bool.and_true, Bool.and_false, Bool.or_true, Bool.true_or, Bool.or_false, Bool.false_or, Bool.not_true, Bool.not_false, if_true, if_false, Bool.false_eq_true, reduceIte, Option.map_some, Option.map_none, reduceCtorEq, ixD, atI_0, atI_1, atI_2, atI_3, atI_4, atI_5, atI_6, atI_7, atI_8, atI_9, atI_10, atI_11, atI_12, atI_nat', decide_true, decide_false, Bool.and_self, Option.isSome_some, Option.isSome_none, eqD_int, eqD_str, List.append_nil, stays_lst', stays_non', stays_tup', stays_str', stays_dic', wipeE, List.foldr_cons, List.foldr_nil, setV, mkL, mkD, items, lineN, Nat.reduceLeDiff,  List.reduceReplicate, Nat.reduceAdd, Nat.reduceSub, isTyV, tyOf, show decide (Ty.list = Ty.list) = true from rfl, r1, Int.toNat_natCast, z, Option.bind_some, boolsD_map]
  have : ((List.range (xs.map D.str).length).map fun _ => true).all id = true := by simp
  rw [this]
  exact exit_rt rfl (List.take_of_length_le (Nat.le_refl _))

theorem tells_ok {t : Tr} {ns : List Cs} (g : Good t ns) {n mc : Nat} {h : Hb} (hn : 8 ≤ n) : callN T n false mc 26 [.v t.val, .v (.lst (t.paths.map .str)), .v (.lst (ns.map .str))] h = .ok (.bl true) h := by
  obtain ⟨n, rfl⟩ : ∃ k, n = k + 1 := ⟨n - 1, by omega⟩
  rw [callF K.f26 rfl rfl rfl]
  have hl := g.len
  have hp := g.plen
  have e1 := isTree_tree K.trees g (n := n) (mc := h.length) (h := h) (by omega)
  rw [show K.trees.iTree = 1 from rfl] at e1
  have e3 := leaf_ok K.trees K.f3 g (n := n) (mc := h.length) (h := h) (by omega)
  have e4 := ways_of_ok K.trees K.f4 g (n := n) (mc := h.length) (h := h) (by omega)
  have e8 := height_ok K.trees K.f8 g (n := n) (mc := h.length) (h := h) (by omega)
  have t1 := texts_ok K ns (by omega) (n := n) (mc := h.length) (h := h) (by omega)
  have t2 := texts_ok K t.paths (by omega) (n := n) (mc := h.length) (h := h) (by omega)
  have nz : ∀ (f : Cs → D), (∀ (k : Nat) (x p : Cs), ns[k]? = some x → t.paths[k]? = some p → f x = .str p) → (ns.filter fun _ => true).map f = t.paths.map .str := by
    intro f H
    rw [List.filter_eq_self.2 (fun _ _ => rfl)]
    refine List.ext_getElem (by simp [hp]) fun k h1 h2 => ?_
    simp only [List.length_map] at h1 h2
    rw [List.getElem_map, List.getElem_map]
    exact H k _ _ (List.getElem?_eq_getElem h1) (List.getElem?_eq_getElem h2)
  have z1 : ∀ σ : Env, σ = [some (.v t.val), some (.v (.lst (t.paths.map .str))), some (.v (.lst (ns.map .str))), some (.v (.dic (ns.map .s) (t.paths.map .str))), none, none, none] → lcGo [5] σ (fun _ => true) (evT (cfN T n false h.length) (.bl true)) (evE (cfN T n false h.length) C3.tells_b1) (ns.map .str) [] h = .ok (t.paths.map .str) h := by
    rintro σ rfl
    rw [lc_strs (fun _ => true) (fun x => match getD (ns.map .s) (t.paths.map .str) (.s x) with | some y => y | none => .non) (by unfold lineN; omega) (by
      intro x hx
      obtain ⟨k, hk⟩ := List.getElem?_of_mem hx
      have hkl : k < ns.length := (List.getElem?_eq_some_iff.1 hk).1
      have hp : t.paths[k]? = some t.paths[k] := List.getElem?_eq_getElem (by omega)
      have gd := getD_at g.nd hk hp
      refine ⟨t_bl, fun _ => ?_⟩
      simp -implicitDefEqProofs -dsimp only [C3.tells_b1, Out.andThen_nx, Out.andThen_rt, Out.andThen_ex, Out.andThen_st, R.bind_ok, R.bind_ex, R.bind_st, R.nox_ok, fromR_ok, fromR_ex, fromR_st, bnd_ok, bnd_ex, bnd_st, frm_ok, frm_ex, frm_st, thn_nx, thn_rt, thn_ex, thn_st, trO_ex, trO_nx, trO_rt, e_var, e_non, e_bl, e_int, e_str, e_glo, e_op1, e_op2, e_op3, e_cmp, e_cmp3, e_and, e_or, e_not, e_ite, e_tup, e_lst, e_dct0, e_set0, e_call, e_new, e_fld, e_lc, e_dc, e_isE, e_isV, e_atE, t_cmp, t_cmp3, t_and, t_or, t_not, t_ite, t_var, t_bl, t_op1, t_op2, t_call, t_fld, t_isE, t_isV, x_nil, x_cons, a_nil, a_ex, a_ec, r_e, r_rng1, r_rng2, s_expr, s_set, s_unp, s_seti, s_setf, s_ret, s_raise, s_ite, s_whl, s_for, s_tr, s_pass, ss_nil, ss_cons, getV, optV, List.getElem?_cons_zero, List.getElem?_cons_succ, List.set_cons_zero, List.set_cons_succ, startE, List.map_cons, List.map_nil, List.length_cons, List.length_nil, List.cons_append, List.nil_append, recv, sem1, sem2, optB, truthR, truth, seqL, isI, calm1, calm2, cfN_hot, cfN_m, cfN_call, cfN_glo, cfN_sub, cfN_sve, cfN_exn, Bool.false_and, Bool.true_and, Bool.and_true, Bool.and_false, Bool.or_true, Bool.true_or, Bool.or_false, Bool.false_or, Bool.not_true, Bool.not_false, if_true, if_false, Bool.false_eq_true, reduceIte, Option.map_some, Option.map_none, reduceCtorEq, ixD, atI_0, atI_1, atI_2, atI_3, atI_4, atI_5, atI_6, atI_7, atI_8, atI_9, atI_10, atI_11, atI_12, atI_nat', decide_true, decide_false, Bool.and_self, Option.isSome_some, Option.isSome_none, eqD_int, eqD_str, List.append_nil, stays_lst', stays_non', stays_tup', stays_str', stays_dic', wipeE, List.foldr_cons, List.foldr_nil, setV, mkL, mkD, items, lineN, Nat.reduceLeDiff,  List.reduceReplicate, Nat.reduceAdd, Nat.reduceSub, dicV_dic, gd])]
    rw [nz _ fun k x p hk hp => by rw [getD_at g.nd hk hp]]
  have z2 : ∀ σ : Env, σ = [some (.v t.val), some (.v (.lst (t.paths.map .str))), some (.v (.lst (ns.map .str))), some (.v (.dic (ns.map .s) (t.paths.map .str))), none, none, none] → lcGo [5] σ (fun _ => true) (evT (cfN T n false h.length) (.bl true)) (evE (cfN T n false h.length) C3.tells_b2) (ns.map .str) [] h = .ok (t.paths.map .str) h := by
    rintro σ rfl
    rw [lc_strs (fun _ => true) (fun x => match getD (ns.map .s) (t.paths.map .str) (.s x) with | some y => y | none => .non) (by unfold lineN; omega) (by
      intro x hx
      obtain ⟨k, hk⟩ := List.getElem?_of_mem hx
      have hkl : k < ns.length := (List.getElem?_eq_some_iff.1 hk).1
      have hp : t.paths[k]? = some t.paths[k] := List.getElem?_eq_getElem (by omega)
      have gd := getD_at g.nd hk hp
      have e5 := way_of_ok K.trees K.f4 K.f5 g hk hp (n := n) (mc := h.length) (h := h) (by omega)
      refine ⟨t_bl, fun _ => ?_⟩
      simp -implicitDefEqProofs -dsimp only [C3.tells_b2, Out.andThen_nx, Out.andThen_rt, Out.andThen_ex, Out.andThen_st, R.bind_ok, R.bind_ex, R.bind_st, R.nox_ok, fromR_ok, fromR_ex, fromR_st, bnd_ok, bnd_ex, bnd_st, frm_ok, frm_ex, frm_st, thn_nx, thn_rt, thn_ex, thn_st, trO_ex, trO_nx, trO_rt, e_var, e_non, e_bl, e_int, e_str, e_glo, e_op1, e_op2, e_op3, e_cmp, e_cmp3, e_and, e_or, e_not, e_ite, e_tup, e_lst, e_dct0, e_set0, e_call, e_new, e_fld, e_lc, e_dc, e_isE, e_isV, e_atE, t_cmp, t_cmp3, t_and, t_or, t_not, t_ite, t_var, t_bl, t_op1, t_op2, t_call, t_fld, t_isE, t_isV, x_nil, x_cons, a_nil, a_ex, a_ec, r_e, r_rng1, r_rng2, s_expr, s_set, s_unp, s_seti, s_setf, s_ret, s_raise, s_ite, s_whl, s_for, s_tr, s_pass, ss_nil, ss_cons, getV, optV, List.getElem?_cons_zero, List.getElem?_cons_succ, List.set_cons_zero, List.set_cons_succ, startE, List.map_cons, List.map_nil, List.length_cons, List.length_nil, List.cons_append, List.nil_append, recv, sem1, sem2, optB, truthR, truth, seqL, isI, calm1, calm2, cfN_hot, cfN_m, cfN_call, cfN_glo, cfN_sub, cfN_sve, cfN_exn, Bool.false_and, Bool.true_and, Bool.and_true, Bool.and_false, Bool.or_true, Bool.true_or, Bool.or_false, Bool.false_or, Bool.not_true, Bool.not_false, if_true, if_false, Bool.false_eq_true, reduceIte, Option.map_some, Option.map_none, reduceCtorEq, ixD, atI_0, atI_1, atI_2, atI_3, atI_4, atI_5, atI_6, atI_7, atI_8, atI_9, atI_10, atI_11, atI_12, atI_nat', decide_true, decide_false, Bool.and_self, Option.isSome_some, Option.isSome_none, eqD_int, eqD_str, List.append_nil, stays_lst', stays_non', stays_tup', stays_str', stays_dic', wipeE, List.foldr_cons, List.foldr_nil, setV, mkL, mkD, items, lineN, Nat.reduceLeDiff,  List.reduceReplicate, Nat.reduceAdd, Nat.reduceSub, e5, gd])]
    rw [nz _ fun k x p hk hp => by rw [getD_at g.nd hk hp]]
  have z3 : ∀ σ : Env, σ = [some (.v t.val), some (.v (.lst (t.paths.map .str))), some (.v (.lst (ns.map .str))), some (.v (.dic (ns.map .s) (t.paths.map .str))), some (.v (.int t.hgt)), none, none] → lcGo [6] σ (fun _ => true) (evT (cfN T n false h.length) (.bl true)) (evE (cfN T n false h.length) C3.tells_b3) (t.paths.map .str) [] h = .ok ((t.paths.map fun p => (p.length : Int)).map .int) h := by
    rintro σ rfl
    rw [lc_strs (fun _ => true) (fun p => .int p.length) (by unfold lineN; omega) (by
      intro x hx
      have : x.length ≤ 16777216 := by have := Tr.path_le_hgt t x hx; have := g.hgt; omega
      refine ⟨t_bl, fun _ => ?_⟩
      simp -implicitDefEqProofs -dsimp only [C3.tells_b3, Out.andThen_nx, Out.andThen_rt, Out.andThen_ex, Out.andThen_st, R.bind_ok, R.bind_ex, R.bind_st, R.nox_ok, fromR_ok, fromR_ex, fromR_st, bnd_ok, bnd_ex, bnd_st, frm_ok, frm_ex, frm_st, thn_nx, thn_rt, thn_ex, thn_st, trO_ex, trO_nx, trO_rt, e_var, e_non, e_bl, e_int, e_str, e_glo, e_op1, e_op2, e_op3, e_cmp, e_cmp3, e_and, e_or, e_not, e_ite, e_tup, e_lst, e_dct0, e_set0, e_call, e_new, e_fld, e_lc, e_dc, e_isE, e_isV, e_atE, t_cmp, t_cmp3, t_and, t_or, t_not, t_ite, t_var, t_bl, t_op1, t_op2, t_call, t_fld, t_isE, t_isV, x_nil, x_cons, a_nil, a_ex, a_ec, r_e, r_rng1, r_rng2, s_expr, s_set, s_unp, s_seti, s_setf, s_ret, s_raise, s_ite, s_whl, s_for, s_tr, s_pass, ss_nil, ss_cons, getV, optV, List.getElem?_cons_zero, List.getElem?_cons_succ, List.set_cons_zero, List.set_cons_succ, startE, List.map_cons, List.map_nil, List.length_cons, List.length_nil, List.cons_append, List.nil_append, recv, sem1, sem2, optB, truthR, truth, seqL, isI, calm1, calm2, cfN_hot, cfN_m, cfN_call, cfN_glo, cfN_sub, cfN_sve, cfN_exn, Bool.false_and, Bool.true_and, Bool.and_true, Bool.and_false, Bool.or_true, Bool.true_or, Bool.or_false, Bool.false_or, Bool.not_true, Bool.not_false, if_true, if_false, Bool.false_eq_true, reduceIte, Option.map_some, Option.map_none, reduceCtorEq, ixD, atI_0, atI_1, atI_2, atI_3, atI_4, atI_5, atI_6, atI_7, atI_8, atI_9, atI_10, atI_11, atI_12, atI_nat', decide_true, decide_false, Bool.and_self, Option.isSome_some, Option.isSome_none, eqD_int, eqD_str, List.append_nil, stays_lst', stays_non', stays_tup', stays_str', stays_dic', wipeE, List.foldr_cons, List.foldr_nil, setV, mkL, mkD, items, lineN, Nat.reduceLeDiff,  List.reduceReplicate, Nat.reduceAdd, Nat.reduceSub, this])]
    rw [List.filter_eq_self.2 (fun _ _ => rfl), List.map_map]
    rfl
  have m1 : maxI (t.paths.map fun p => (p.length : Int)) = t.hgt := by
    refine maxI_eq (by rw [List.length_map]; exact t.pos) ?_ ?_
    · obtain ⟨p, hp, lp⟩ := t.hgt_path
      exact List.mem_map.2 ⟨p, hp, by rw [lp]⟩
    · intro x hx
      obtain ⟨q, hq, rfl⟩ := List.mem_map.1 hx
      have := Tr.path_le_hgt t q hq
      omega
  have m0 : 0 < (t.paths.map fun p => (p.length : Int)).length := by rw [List.length_map]; exact t.pos
  simp -implicitDefEqProofs -dsimp only [C3.tells, Out.andThen_nx, Out.andThen_rt, Out.andThen_ex, Out.andThen_st, R.bind_ok, R.bind_ex, R.bind_st, R.nox_ok, fromR_ok, fromR_ex, fromR_st, bnd_ok, bnd_ex, bnd_st, frm_ok, frm_ex, frm_st, thn_nx, thn_rt, thn_ex, thn_st, trO_ex, trO_nx, trO_rt, e_var, e_non, e_bl, e_int, e_str, e_glo, e_op1, e_op2, e_op3, e_cmp, e_cmp3, e_and, e_or, e_not, e_ite, e_tup, e_lst, e_dct0, e_set0, e_call, e_new, e_fld, e_lc, e_dc, e_isE, e_isV, e_atE, t_cmp, t_cmp3, t_and, t_or, t_not, t_ite, t_var, t_bl, t_op1, t_op2, t_call, t_fld, t_isE, t_isV, x_nil, x_cons, a_nil, a_ex, a_ec, r_e, r_rng1, r_rng2, s_expr, s_set, s_unp, s_seti, s_setf, s_ret, s_raise, s_ite, s_whl, s_for, s_tr, s_pass, ss_nil, ss_cons, getV, optV, List.getElem?_cons_zero, List.getElem?_cons_succ, List.set_cons_zero, List.set_cons_succ, startE, List.map_cons, List.map_nil, List.length_cons, List.length_nil, List.cons_append, List.nil_append, recv, sem1, sem2, optB, truthR, truth, seqL, isI, calm1, calm2, cfN_hot, cfN_m, cfN_call, cfN_glo, cfN_sub, cfN_sve, cfN_exn, Bool.false_and, Bool.true_and, Bool.and_true, Bool.and_false, Bool.or_true, Bool.true_or, Bool.or_false, Bool.false_or, Bool.not_true, Bool.not_false, if_true, if_false, Bool.false_eq_true, reduceIte, Option.map_some, Option.map_none, reduceCtorEq, ixD, atI_0, atI_1, atI_2, atI_3, atI_4, atI_5, atI_6, atI_7, atI_8, atI_9, atI_10, atI_11, atI_12, atI_nat', decide_true, decide_false, Bool.and_self, Option.isSome_some, Option.isSome_none, eqD_int, eqD_str, List.append_nil, stays_lst', stays_non', stays_tup', stays_str', stays_dic', wipeE, List.foldr_cons, List.foldr_nil, setV, mkL, mkD, items, lineN, Nat.reduceLeDiff,  List.reduceReplicate, Nat.reduceAdd, Nat.reduceSub, e1, isD, e3, t1, e4, isTyV, tyOf, show decide (Ty.dict = Ty.dict) = true from rfl, dicV_dic, dKeys, z1 _ rfl, t2, z2 _ rfl, e8, show decide (Ty.int = Ty.int) = true from rfl, show decide (Ty.int = Ty.bool) = false from rfl, show decide (Ty.bool = Ty.int) = false from rfl, z3 _ rfl, Option.bind_some, intsD_map, m0, m1]
  exact exit_rt rfl (List.take_of_length_le (Nat.le_refl _))
end
end Q
end FV

namespace FV
namespace Q
open PySem

theorem under_len (t : Tr) (ns : List Cs) (w : Cs) : (under t ns w).length ≤ ns.length := by
  unfold under
  exact Nat.le_trans (List.length_filterMap_le _ _) (Nat.le_trans (List.length_filter_le _ _) (by simp))
theorem plain60 {x : Cs} (h : ∀ c ∈ x, c < 1114112) : plain 59 (.str x) = true := by
  simp only [plain, List.all_eq_true, decide_eq_true_eq]
  exact h
theorem eqD_pair {a : Int} {x : Cs} (h : ∀ c ∈ x, c < 1114112) : eqD (.tup [.int a, .str x]) (.tup [.int a, .str x]) = some true := by
  have p : plain 60 (.tup [.int a, .str x]) = true := by
    simp only [plain, plains, plain60 h, Bool.and_self]
    simp only [List.all_eq_true, decide_eq_true_eq, Bool.and_true, Bool.true_and]
    exact h
  simp only [eqD, p, Bool.and_self, Bool.or_true, if_true, eqv, eqvs, beq_self_eq_true]
theorem fks_01 : ∀ (t : Tr) (w : Cs), w ∈ t.fks → ∀ c ∈ w, c = 48 ∨ c = 49
  | .leaf _, w, h => by simp [Tr.fks] at h
  | .fork a b, w, h => by
    simp only [Tr.fks, List.mem_cons, List.mem_append, List.mem_map] at h
    rcases h with rfl | ⟨q, hq, rfl⟩ | ⟨q, hq, rfl⟩
    · simp
    · intro c hc
      simp only [List.mem_cons] at hc
      rcases hc with rfl | hc
      · simp
      · exact fks_01 a q hq c hc
    · intro c hc
      simp only [List.mem_cons] at hc
      rcases hc with rfl | hc
      · simp
      · exact fks_01 b q hq c hc
theorem paths_01 : ∀ (t : Tr) (w : Cs), w ∈ t.paths → ∀ c ∈ w, c = 48 ∨ c = 49
  | .leaf _, w, h => by simp [Tr.paths] at h; subst h; simp
  | .fork a b, w, h => by
    simp only [Tr.paths, List.mem_append, List.mem_map] at h
    rcases h with ⟨q, hq, rfl⟩ | ⟨q, hq, rfl⟩
    · intro c hc
      simp only [List.mem_cons] at hc
      rcases hc with rfl | hc
      · simp
      · exact paths_01 a q hq c hc
    · intro c hc
      simp only [List.mem_cons] at hc
      rcases hc with rfl | hc
      · simp
      · exact paths_01 b q hq c hc
theorem path_fork : ∀ (t : Tr) (p : Cs), p ∈ t.paths → ∀ x : Cs, p ++ x ∉ t.fks
  | .leaf _, p, _ => by simp [Tr.fks]
  | .fork a b, p, h => by
    intro x hx
    simp only [Tr.paths, List.mem_append, List.mem_map] at h
    simp only [Tr.fks, List.mem_cons, List.mem_append, List.mem_map] at hx
    rcases h with ⟨q, hq, rfl⟩ | ⟨q, hq, rfl⟩
    · rcases hx with e | ⟨y, hy, e⟩ | ⟨y, hy, e⟩
      · simp at e
      · simp only [List.cons_append, List.cons.injEq, true_and] at e
        subst e
        exact path_fork a q hq x hy
      · simp at e
    · rcases hx with e | ⟨y, hy, e⟩ | ⟨y, hy, e⟩
      · simp at e
      · simp at e
      · simp only [List.cons_append, List.cons.injEq, true_and] at e
        subst e
        exact path_fork b q hq x hy
theorem fks_len : ∀ (t : Tr) (w : Cs), w ∈ t.fks → w.length < t.hgt
  | .leaf _, w, h => by simp [Tr.fks] at h
  | .fork a b, w, h => by
    simp only [Tr.fks, List.mem_cons, List.mem_append, List.mem_map] at h
    rcases h with rfl | ⟨q, hq, rfl⟩ | ⟨q, hq, rfl⟩
    · simp [Tr.hgt]
    · have := fks_len a q hq; simp [Tr.hgt]; omega
    · have := fks_len b q hq; simp [Tr.hgt]; omega
theorem fks_count : ∀ t : Tr, t.fks.length + 1 = t.paths.length
  | .leaf _ => by simp [Tr.fks, Tr.paths]
  | .fork a b => by have := fks_count a; have := fks_count b; simp [Tr.fks, Tr.paths]; omega

section
variable {T : Tb} (K : Tb3 T)
include K
theorem sides_ok {t : Tr} {ns : List Cs} (g : Good t ns) {n mc : Nat} {h : Hb} (hn : 8 ≤ n) : callN T n false mc 27 [.v t.val, .v (.lst (t.paths.map .str)), .v (.lst (ns.map .str))] h = .ok (.bl true) h := by
  obtain ⟨n, rfl⟩ : ∃ k, n = k + 1 := ⟨n - 1, by omega⟩
  rw [callF K.f27 rfl rfl rfl]
  have hl := g.len
  have hp := g.plen
  have hh := g.hgt
  have e6 := forks_of_ok K.trees K.f6 g (n := n) (mc := h.length) (h := h) (by omega)
  have e21 := forks_ok K.f21 t (n := n) (mc := h.length) (h := h) (by omega) g.small
  have hfc := fks_count t
  have t1 := texts_ok K t.fks (by omega) (n := n) (mc := h.length) (h := h) (by omega)
  have inner : ∀ (w : Cs) (v5 v6 v7 : Option Sl), w ∈ t.fks → ∃ v5' v6' v7', forGo [5] (fun _ => true) (evSs (cfN T n false h.length) C3.sides_b3) (rngL 0 2) [some (.v t.val), some (.v (.lst (t.paths.map .str))), some (.v (.lst (ns.map .str))), some (.v (.lst (t.fks.map .str))), some (.v (.str w)), v5, v6, v7, none] h = .nx [some (.v t.val), some (.v (.lst (t.paths.map .str))), some (.v (.lst (ns.map .str))), some (.v (.lst (t.fks.map .str))), some (.v (.str w)), v5', v6', v7', none] h := by
    intro w v5 v6 v7 hw
    have hwl := fks_len t w hw
    have step : ∀ (s : Nat) (v5 v6 v7 : Option Sl), s < 2 → ∃ v6' v7', evSs (cfN T n false h.length) C3.sides_b3 [some (.v t.val), some (.v (.lst (t.paths.map .str))), some (.v (.lst (ns.map .str))), some (.v (.lst (t.fks.map .str))), some (.v (.str w)), some (.v (.int s)), v6, v7, none] h = .nx [some (.v t.val), some (.v (.lst (t.paths.map .str))), some (.v (.lst (ns.map .str))), some (.v (.lst (t.fks.map .str))), some (.v (.str w)), some (.v (.int s)), v6', v7', none] h := by
      intro s v5 v6 v7 hs
      have l1 : w.length + (side s).length ≤ 16777216 := by simp [side]; omega
      have l3 : (s : Int).natAbs.log2 < 1920 := by
        match s, hs with
        | 0, _ => exact (by decide)
        | 1, _ => exact (by decide)
      have r1 : inR ((ns.map D.str).length : Int) = true := by unfold inR; exact decide_eq_true (by simp; omega)
      have e9 := ben_ok K.trees K.f4 K.f6 K.f7 K.f9 g hw (by omega) hs (n := n) (mc := h.length) (h := h) (by omega)
      have hun : (under t ns (w ++ side s)).length ≤ 1000000 := by have := under_len t ns (w ++ side s); omega
      have t2 := texts_ok K (under t ns (w ++ side s)) hun (n := n) (mc := h.length) (h := h) (by omega)
      have z : ∀ σ : Env, σ = [some (.v t.val), some (.v (.lst (t.paths.map .str))), some (.v (.lst (ns.map .str))), some (.v (.lst (t.fks.map .str))), some (.v (.str w)), some (.v (.int s)), some (.v (.str (w ++ side s))), v7, none] → lcGo [8] σ (fun _ => true) (evT (cfN T n false h.length) C3.sides_b1) (evE (cfN T n false h.length) C3.sides_b2) (rngL 0 (ns.map D.str).length) [] h = .ok ((under t ns (w ++ side s)).map .str) h := by
        rintro σ rfl
        rw [lc_rng (fun k => match t.paths[k]? with | some p => (w ++ side s).isPrefixOf p | none => false) (fun k => match ns[k]? with | some x => .str x | none => .non) (by unfold lineN; simp; omega) (by
          intro k hk
          simp only [List.length_map] at hk
          have hk2 : k < t.paths.length := by omega
          refine ⟨?_, fun _ => ?_⟩
          · simp -implicitDefEqProofs -dsimp only [C3.sides_b1, Out.andThen_nx, Out.andThen_rt, Out.andThen_ex, Out.andThen_st, R.bind_ok, R.bind_ex, R.bind_st, R.nox_ok, fromR_ok, fromR_ex, fromR_st, bnd_ok, bnd_ex, bnd_st, frm_ok, frm_ex, frm_st, thn_nx, thn_rt, thn_ex, thn_st, trO_ex, trO_nx, trO_rt, e_var, e_non, e_bl, e_int, e_str, e_glo, e_op1, e_op2, e_op3, e_cmp, e_cmp3, e_and, e_or, e_not, e_ite, e_tup, e_lst, e_dct0, e_set0, e_call, e_new, e_fld, e_lc, e_dc, e_isE, e_isV, e_atE, t_cmp, t_cmp3, t_and, t_or, t_not, t_ite, t_var, t_bl, t_op1, t_op2, t_call, t_fld, t_isE, t_isV, x_nil, x_cons, a_nil, a_ex, a_ec, r_e, r_rng1, r_rng2, s_expr, s_set, s_unp, s_seti, s_setf, s_ret, s_raise, s_ite, s_whl, s_for, s_tr, s_pass, ss_nil, ss_cons, getV, optV, List.getElem?_cons_zero, List.getElem?_cons_succ, List.set_cons_zero, List.set_cons_succ, startE, List.map_cons, List.map_nil, List.length_cons, List.length_nil, List.cons_append, List.nil_append, recv, sem1, sem2, optB, truthR, truth, seqL, isI, calm1, calm2, cfN_hot, cfN_m, cfN_call, cfN_glo, cfN_sub, cfN_sve, cfN_exn, Bool.false_and, Bool.true_and, Bool.and_true, Bool.and_false, Bool.or_true, Bool.true_or, Bool.or_false, Bool.false_or, Bool.not_true, Bool.not_false, if_true, if_false, Bool.false_eq_true, reduceIte, Option.map_some, Option.map_none, reduceCtorEq, ixD, atI_0, atI_1, atI_2, atI_3, atI_4, atI_5, atI_6, atI_7, atI_8, atI_9, atI_10, atI_11, atI_12, atI_nat', decide_true, decide_false, Bool.and_self, Option.isSome_some, Option.isSome_none, eqD_int, eqD_str, List.append_nil, stays_lst', stays_non', stays_tup', stays_str', stays_dic', wipeE, List.foldr_cons, List.foldr_nil, setV, mkL, mkD, items, lineN, Nat.reduceLeDiff,  List.reduceReplicate, Nat.reduceAdd, Nat.reduceSub, List.getElem?_map, List.getElem?_eq_getElem hk2]
          · simp -implicitDefEqProofs -dsimp only [C3.sides_b2, Out.andThen_nx, Out.andThen_rt, Out.andThen_ex, Out.andThen_st, R.bind_ok, R.bind_ex, R.bind_st, R.nox_ok, fromR_ok, fromR_ex, fromR_st, bnd_ok, bnd_ex, bnd_st, frm_ok, frm_ex, frm_st, thn_nx, thn_rt, thn_ex, thn_st, trO_ex, trO_nx, trO_rt, e_var, e_non, e_bl, e_int, e_str, e_glo, e_op1, e_op2, e_op3, e_cmp, e_cmp3, e_and, e_or, e_not, e_ite, e_tup, e_lst, e_dct0, e_set0, e_call, e_new, e_fld, e_lc, e_dc, e_isE, e_isV, e_atE, t_cmp, t_cmp3, t_and, t_or, t_not, t_ite, t_var, t_bl, t_op1, t_op2, t_call, t_fld, t_isE, t_isV, x_nil, x_cons, a_nil, a_ex, a_ec, r_e, r_rng1, r_rng2, s_expr, s_set, s_unp, s_seti, s_setf, s_ret, s_raise, s_ite, s_whl, s_for, s_tr, s_pass, ss_nil, ss_cons, getV, optV, List.getElem?_cons_zero, List.getElem?_cons_succ, List.set_cons_zero, List.set_cons_succ, startE, List.map_cons, List.map_nil, List.length_cons, List.length_nil, List.cons_append, List.nil_append, recv, sem1, sem2, optB, truthR, truth, seqL, isI, calm1, calm2, cfN_hot, cfN_m, cfN_call, cfN_glo, cfN_sub, cfN_sve, cfN_exn, Bool.false_and, Bool.true_and, Bool.and_true, Bool.and_false, Bool.or_true, Bool.true_or, Bool.or_false, Bool.false_or, Bool.not_true, Bool.not_false, if_true, if_false, Bool.false_eq_true, reduceIte, Option.map_some, Option.map_none, reduceCtorEq, ixD, atI_0, atI_1, atI_2, atI_3, atI_4, atI_5, atI_6, atI_7, atI_8, atI_9, atI_10, atI_11, atI_12, atI_nat', decide_true, decide_false, Bool.and_self, Option.isSome_some, Option.isSome_none, eqD_int, eqD_str, List.append_nil, stays_lst', stays_non', stays_tup', stays_str', stays_dic', wipeE, List.foldr_cons, List.foldr_nil, setV, mkL, mkD, items, lineN, Nat.reduceLeDiff,  List.reduceReplicate, Nat.reduceAdd, Nat.reduceSub, List.getElem?_map, List.getElem?_eq_getElem hk])]
        refine congrArg (fun l => R.ok l h) ?_
        unfold under
        rw [List.length_map]
        have gen : ∀ l : List Nat, (∀ k ∈ l, k < ns.length) → l.map (fun k => match ns[k]? with | some x => D.str x | none => .non) = (l.filterMap fun k => ns[k]?).map .str := by
          intro l
          induction l with
          | nil => intro _; rfl
          | cons k l ih =>
            intro H
            have hk := H k (by simp)
            rw [List.map_cons, List.filterMap_cons, List.getElem?_eq_getElem hk, ih fun j hj => H j (by simp [hj])]
            rfl
        exact gen _ fun k hk => List.mem_range.1 (List.mem_filter.1 hk).1
      simp -implicitDefEqProofs -dsimp only [C3.sides_b3, Out.andThen_nx, Out.andThen_rt, Out.andThen_ex, Out.andThen_st, R.bind_ok, R.bind_ex, R.bind_st, R.nox_ok, fromR_ok, fromR_ex, fromR_st, bnd_ok, bnd_ex, bnd_st, frm_ok, frm_ex, frm_st, thn_nx, thn_rt, thn_ex, thn_st, trO_ex, trO_nx, trO_rt, e_var, e_non, e_bl, e_int, e_str, e_glo, e_op1, e_op2, e_op3, e_cmp, e_cmp3, e_and, e_or, e_not, e_ite, e_tup, e_lst, e_dct0, e_set0, e_call, e_new, e_fld, e_lc, e_dc, e_isE, e_isV, e_atE, t_cmp, t_cmp3, t_and, t_or, t_not, t_ite, t_var, t_bl, t_op1, t_op2, t_call, t_fld, t_isE, t_isV, x_nil, x_cons, a_nil, a_ex, a_ec, r_e, r_rng1, r_rng2, s_expr, s_set, s_unp, s_seti, s_setf, s_ret, s_raise, s_ite, s_whl, s_for, s_tr, s_pass, ss_nil, ss_cons, getV, optV, List.getElem?_cons_zero, List.getElem?_cons_succ, List.set_cons_zero, List.set_cons_succ, startE, List.map_cons, List.map_nil, List.length_cons, List.length_nil, List.cons_append, List.nil_append, recv, sem1, sem2, optB, truthR, truth, seqL, isI, calm1, calm2, cfN_hot, cfN_m, cfN_call, cfN_glo, cfN_sub, cfN_sve, cfN_exn, Bool.false_and, Bool.true_and, Bool.and_true, Bool.and_false, Bool.or_true, Bool.true_or, Bool.or_false, Bool.false_or, Bool.not_true, Bool.not_false, if_true, if_false, Bool.false_eq_true, reduceIte, Option.map_some, Option.map_none, reduceCtorEq, ixD, atI_0, atI_1, atI_2, atI_3, atI_4, atI_5, atI_6, atI_7, atI_8, atI_9, atI_10, atI_11, atI_12, atI_nat', decide_true, decide_false, Bool.and_self, Option.isSome_some, Option.isSome_none, eqD_int, eqD_str, List.append_nil, stays_lst', stays_non', stays_tup', stays_str', stays_dic', wipeE, List.foldr_cons, List.foldr_nil, setV, mkL, mkD, items, lineN, Nat.reduceLeDiff,  List.reduceReplicate, Nat.reduceAdd, Nat.reduceSub, istr_side hs, l1, l3, r1, Int.toNat_natCast, z _ rfl, e9, t2]
      exact ⟨_, _, rfl⟩
    obtain ⟨v6', v7', e0⟩ := step 0 v5 v6 v7 (by decide)
    obtain ⟨v6'', v7'', e1⟩ := step 1 (some (.v (.int (0 : Nat)))) v6' v7' (by decide)
    rw [show rngL 0 2 = [.int ((0 : Nat) : Int), .int ((1 : Nat) : Int)] from rfl]
    simp -implicitDefEqProofs -dsimp only [forGo, if_true, bindT, Out.andThen_nx, Out.andThen_rt, Out.andThen_ex, Out.andThen_st, R.bind_ok, R.bind_ex, R.bind_st, R.nox_ok, fromR_ok, fromR_ex, fromR_st, bnd_ok, bnd_ex, bnd_st, frm_ok, frm_ex, frm_st, thn_nx, thn_rt, thn_ex, thn_st, trO_ex, trO_nx, trO_rt, e_var, e_non, e_bl, e_int, e_str, e_glo, e_op1, e_op2, e_op3, e_cmp, e_cmp3, e_and, e_or, e_not, e_ite, e_tup, e_lst, e_dct0, e_set0, e_call, e_new, e_fld, e_lc, e_dc, e_isE, e_isV, e_atE, t_cmp, t_cmp3, t_and, t_or, t_not, t_ite, t_var, t_bl, t_op1, t_op2, t_call, t_fld, t_isE, t_isV, x_nil, x_cons, a_nil, a_ex, a_ec, r_e, r_rng1, r_rng2, s_expr, s_set, s_unp, s_seti, s_setf, s_ret, s_raise, s_ite, s_whl, s_for, s_tr, s_pass, ss_nil, ss_cons, getV, optV, List.getElem?_cons_zero, List.getElem?_cons_succ, List.set_cons_zero, List.set_cons_succ, startE, List.map_cons, List.map_nil, List.length_cons, List.length_nil, List.cons_append, List.nil_append, recv, sem1, sem2, optB, truthR, truth, seqL, isI, calm1, calm2, cfN_hot, cfN_m, cfN_call, cfN_glo, cfN_sub, cfN_sve, cfN_exn, Bool.false_and, Bool.true_and, Bool.and_true, Bool.and_false, Bool.or_true, Bool.true_or, Bool.or_false, Bool.false_or, Bool.not_true, Bool.not_false, if_true, if_false, Bool.false_eq_true, reduceIte, Option.map_some, Option.map_none, reduceCtorEq, ixD, atI_0, atI_1, atI_2, atI_3, atI_4, atI_5, atI_6, atI_7, atI_8, atI_9, atI_10, atI_11, atI_12, atI_nat', decide_true, decide_false, Bool.and_self, Option.isSome_some, Option.isSome_none, eqD_int, eqD_str, List.append_nil, stays_lst', stays_non', stays_tup', stays_str', stays_dic', wipeE, List.foldr_cons, List.foldr_nil, setV, mkL, mkD, items, lineN, Nat.reduceLeDiff,  List.reduceReplicate, Nat.reduceAdd, Nat.reduceSub, e0, e1]
    exact ⟨_, _, _, rfl⟩
  obtain ⟨σ', h', e, rest, v4, v5, v6, v7, hx, hm, rfl, rfl⟩ := forGo_nx (tg := [4]) (st := fun _ => true) (b := evSs (cfN T n false h.length) C3.sides_b4)
    (fun xs σ h' => ∃ (rest : List Cs) (v4 v5 v6 v7 : Option Sl), xs = rest.map .str ∧ (∀ w ∈ rest, w ∈ t.fks) ∧ σ = [some (.v t.val), some (.v (.lst (t.paths.map .str))), some (.v (.lst (ns.map .str))), some (.v (.lst (t.fks.map .str))), v4, v5, v6, v7, none] ∧ h' = h)
    (fun _ _ _ _ => rfl) (by
      rintro x rs σ h' ⟨rest, v4, v5, v6, v7, hx, hm, rfl, rfl⟩
      cases rest with
      | nil => cases hx
      | cons w rest =>
        cases hx
        refine ⟨_, rfl, ?_⟩
        obtain ⟨v5', v6', v7', e⟩ := inner w v5 v6 v7 (hm w (by simp))
        simp -implicitDefEqProofs -dsimp only [C3.sides_b4, Out.andThen_nx, Out.andThen_rt, Out.andThen_ex, Out.andThen_st, R.bind_ok, R.bind_ex, R.bind_st, R.nox_ok, fromR_ok, fromR_ex, fromR_st, bnd_ok, bnd_ex, bnd_st, frm_ok, frm_ex, frm_st, thn_nx, thn_rt, thn_ex, thn_st, trO_ex, trO_nx, trO_rt, e_var, e_non, e_bl, e_int, e_str, e_glo, e_op1, e_op2, e_op3, e_cmp, e_cmp3, e_and, e_or, e_not, e_ite, e_tup, e_lst, e_dct0, e_set0, e_call, e_new, e_fld, e_lc, e_dc, e_isE, e_isV, e_atE, t_cmp, t_cmp3, t_and, t_or, t_not, t_ite, t_var, t_bl, t_op1, t_op2, t_call, t_fld, t_isE, t_isV, x_nil, x_cons, a_nil, a_ex, a_ec, r_e, r_rng1, r_rng2, s_expr, s_set, s_unp, s_seti, s_setf, s_ret, s_raise, s_ite, s_whl, s_for, s_tr, s_pass, ss_nil, ss_cons, getV, optV, List.getElem?_cons_zero, List.getElem?_cons_succ, List.set_cons_zero, List.set_cons_succ, startE, List.map_cons, List.map_nil, List.length_cons, List.length_nil, List.cons_append, List.nil_append, recv, sem1, sem2, optB, truthR, truth, seqL, isI, calm1, calm2, cfN_hot, cfN_m, cfN_call, cfN_glo, cfN_sub, cfN_sve, cfN_exn, Bool.false_and, Bool.true_and, Bool.and_true, Bool.and_false, Bool.or_true, Bool.true_or, Bool.or_false, Bool.false_or, Bool.not_true, Bool.not_false, if_true, if_false, Bool.false_eq_true, reduceIte, Option.map_some, Option.map_none, reduceCtorEq, ixD, atI_0, atI_1, atI_2, atI_3, atI_4, atI_5, atI_6, atI_7, atI_8, atI_9, atI_10, atI_11, atI_12, atI_nat', decide_true, decide_false, Bool.and_self, Option.isSome_some, Option.isSome_none, eqD_int, eqD_str, List.append_nil, stays_lst', stays_non', stays_tup', stays_str', stays_dic', wipeE, List.foldr_cons, List.foldr_nil, setV, mkL, mkD, items, lineN, Nat.reduceLeDiff,  List.reduceReplicate, Nat.reduceAdd, Nat.reduceSub, show inR 2 = true from rfl, show Int.toNat 2 = 2 from rfl, e]
        exact ⟨_, _, rfl, rest, _, _, _, _, rfl, fun w hw => hm w (by simp [hw]), rfl, rfl⟩) (t.fks.map .str) _ _ ⟨t.fks, none, none, none, none, rfl, fun w hw => hw, rfl, rfl⟩
  simp -implicitDefEqProofs -dsimp only [C3.sides, Out.andThen_nx, Out.andThen_rt, Out.andThen_ex, Out.andThen_st, R.bind_ok, R.bind_ex, R.bind_st, R.nox_ok, fromR_ok, fromR_ex, fromR_st, bnd_ok, bnd_ex, bnd_st, frm_ok, frm_ex, frm_st, thn_nx, thn_rt, thn_ex, thn_st, trO_ex, trO_nx, trO_rt, e_var, e_non, e_bl, e_int, e_str, e_glo, e_op1, e_op2, e_op3, e_cmp, e_cmp3, e_and, e_or, e_not, e_ite, e_tup, e_lst, e_dct0, e_set0, e_call, e_new, e_fld, e_lc, e_dc, e_isE, e_isV, e_atE, t_cmp, t_cmp3, t_and, t_or, t_not, t_ite, t_var, t_bl, t_op1, t_op2, t_call, t_fld, t_isE, t_isV, x_nil, x_cons, a_nil, a_ex, a_ec, r_e, r_rng1, r_rng2, s_expr, s_set, s_unp, s_seti, s_setf, s_ret, s_raise, s_ite, s_whl, s_for, s_tr, s_pass, ss_nil, ss_cons, getV, optV, List.getElem?_cons_zero, List.getElem?_cons_succ, List.set_cons_zero, List.set_cons_succ, startE, List.map_cons, List.map_nil, List.length_cons, List.length_nil, List.cons_append, List.nil_append, recv, sem1, sem2, optB, truthR, truth, seqL, isI, calm1, calm2, cfN_hot, cfN_m, cfN_call, cfN_glo, cfN_sub, cfN_sve, cfN_exn, Bool.false_and, Bool.true_and, Bool.and_true, Bool.and_false, Bool.or_true, Bool.true_or, Bool.or_false, Bool.false_or, Bool.not_true, Bool.not_false, if_true, if_false, Bool.false_eq_true, reduceIte, Option.map_some, Option.map_none, reduceCtorEq, ixD, atI_0, atI_1, atI_2, atI_3, atI_4, atI_5, atI_6, atI_7, atI_8, atI_9, atI_10, atI_11, atI_12, atI_nat', decide_true, decide_false, Bool.and_self, Option.isSome_some, Option.isSome_none, eqD_int, eqD_str, List.append_nil, stays_lst', stays_non', stays_tup', stays_str', stays_dic', wipeE, List.foldr_cons, List.foldr_nil, setV, mkL, mkD, items, lineN, Nat.reduceLeDiff,  List.reduceReplicate, Nat.reduceAdd, Nat.reduceSub, e21, e6, t1, e]
  exact exit_rt rfl (List.take_of_length_le (Nat.le_refl _))

theorem refused_ok {t : Tr} {ns : List Cs} (g : Good t ns) {x : Cs} (hm : x ∉ ns) (hx : isNameC x) {n mc j r : Nat} {h : Hb} (hn : 9 ≤ n) (B : Bag h j (r + 14)) :
    ∃ h', callN T n false mc 28 [.v (.box j), .v t.val, .v (.lst (t.paths.map .str)), .v (.str x)] h = .ok (.bl true) h' ∧ Bag h' j r ∧ Upd j h h' := by
  obtain ⟨n, rfl⟩ : ∃ k, n = k + 1 := ⟨n - 1, by omega⟩
  have hl := g.len
  have hp := g.plen
  have hh := g.hgt
  have hpos := t.pos
  have cx : ∀ c ∈ x, c < 1114112 := fun c hc => by have := hx.2.2 c hc; omega
  have e0 := ask_unk K g hm (s := .int 0) (n := n) (mc := h.length) (h := h) (by omega)
  obtain ⟨v1, h1, e1, l1, B1, u1⟩ := draw K.draws (n := n) (mc := h.length) (r := r + 12) (t.paths.map D.str).length (by omega) B (by simpa using hpos) (by simp; omega)
  simp only [List.length_map] at l1
  have hk : t.paths[v1]? = some t.paths[v1] := List.getElem?_eq_getElem l1
  have hmem : t.paths[v1] ∈ t.paths := List.getElem_mem l1
  generalize t.paths[v1] = way at hk hmem
  have hwl := Tr.path_le_hgt t way hmem
  obtain ⟨v2, h2, e2, l2, B2, u2⟩ := draw K.draws (n := n) (mc := h.length) (r := r + 10) (way.length + 1) (by omega) B1 (by omega) (by omega)
  rw [show ((way.length + 1 : Nat) : Int) = (way.length : Int) + 1 from rfl] at e2
  obtain ⟨v3, h3, e3, l3, B3, u3⟩ := draw K.draws (n := n) (mc := h.length) (r := r + 8) 3 (by omega) B2 (by decide) (by decide)
  rw [show ((3 : Nat) : Int) = 3 from rfl] at e3
  obtain ⟨c, hc, hc2⟩ : ∃ c, ([50, 97, 120] : Cs)[v3]? = some c ∧ (c = 50 ∨ c = 97 ∨ c = 120) := by
    match v3, l3 with
    | 0, _ => exact ⟨50, rfl, by simp⟩
    | 1, _ => exact ⟨97, rfl, by simp⟩
    | 2, _ => exact ⟨120, rfl, by simp⟩
  obtain ⟨v4, h4, e4, l4, B4, u4⟩ := draw K.draws (n := n) (mc := h.length) (r := r + 6) 2 (by omega) B3 (by decide) (by decide)
  rw [show ((2 : Nat) : Int) = 2 from rfl] at e4
  have lg : (v4 : Int).natAbs.log2 < 1920 := by
    match v4, l4 with
    | 0, _ => exact (by decide)
    | 1, _ => exact (by decide)
  have u4' := ((u1.trans u2).trans u3).trans u4
  have w1 : way.length ≤ 16777216 := by omega
  have w2 : way.length + (side v4).length ≤ 16777216 := by simp [side]; omega
  have w3 : (way.take v2).length + (0 + 1) ≤ 16777216 := by simp; omega
  have w3' : (way.take v2).length + 1 ≤ 16777216 := by simp; omega
  have w4 : (way.take v2 ++ [c]).length + (way.drop v2).length ≤ 16777216 := by simp; omega
  have a1 := path_fork t way hmem []
  rw [List.append_nil] at a1
  have a2 := path_fork t way hmem (side v4)
  have a3 : way.take v2 ++ [c] ++ way.drop v2 ∉ t.fks := fun hf => by
    have := fks_01 t _ hf c (by simp)
    omega
  have ch : ∀ c ∈ way, c < 1114112 := fun c hc => by have := paths_01 t way hmem c hc; omega
  obtain ⟨σ', h5, e5, rest, v8, hx5, hm5, rfl, B5, u5⟩ := forGo_nx (tg := [8]) (st := fun _ => true) (b := evSs (cfN T n false h.length) C3.refused_b1)
    (fun xs σ h' => ∃ (rest : List Cs) (v8 : Option Sl), xs = rest.map .str ∧ (∀ w ∈ rest, w ∉ t.fks ∧ ∀ c ∈ w, c < 1114112) ∧ σ = [some (.v (.box j)), some (.v t.val), some (.v (.lst (t.paths.map .str))), some (.v (.str x)), some (.v (.str way)), some (.v (.int v2)), some (.v (.str [c])), some (.v (.str (side v4))), v8] ∧ Bag h' j (r + 2 * rest.length) ∧ Upd j h h')
    (fun _ _ _ _ => rfl) (by
      rintro x' rs σ h' ⟨rest, v8, hx, hm, rfl, B', u'⟩
      cases rest with
      | nil => cases hx
      | cons w rest =>
        cases hx
        refine ⟨_, rfl, ?_⟩
        simp only [List.length_cons] at B'
        obtain ⟨v, h2, e2, l2, B2, u2⟩ := draw K.draws (n := n) (mc := h.length) (r := r + 2 * rest.length) 2 (by omega) (B'.mono (by omega)) (by decide) (by decide)
        rw [show ((2 : Nat) : Int) = 2 from rfl] at e2
        obtain ⟨m1, m2⟩ := hm w (by simp)
        have e24 := ask_fork K g m1 (s := .int v) (n := n) (mc := h.length) (h := h2) (by omega)
        simp -implicitDefEqProofs -dsimp only [C3.refused_b1, Out.andThen_nx, Out.andThen_rt, Out.andThen_ex, Out.andThen_st, R.bind_ok, R.bind_ex, R.bind_st, R.nox_ok, fromR_ok, fromR_ex, fromR_st, bnd_ok, bnd_ex, bnd_st, frm_ok, frm_ex, frm_st, thn_nx, thn_rt, thn_ex, thn_st, trO_ex, trO_nx, trO_rt, e_var, e_non, e_bl, e_int, e_str, e_glo, e_op1, e_op2, e_op3, e_cmp, e_cmp3, e_and, e_or, e_not, e_ite, e_tup, e_lst, e_dct0, e_set0, e_call, e_new, e_fld, e_lc, e_dc, e_isE, e_isV, e_atE, t_cmp, t_cmp3, t_and, t_or, t_not, t_ite, t_var, t_bl, t_op1, t_op2, t_call, t_fld, t_isE, t_isV, x_nil, x_cons, a_nil, a_ex, a_ec, r_e, r_rng1, r_rng2, s_expr, s_set, s_unp, s_seti, s_setf, s_ret, s_raise, s_ite, s_whl, s_for, s_tr, s_pass, ss_nil, ss_cons, getV, optV, List.getElem?_cons_zero, List.getElem?_cons_succ, List.set_cons_zero, List.set_cons_succ, startE, List.map_cons, List.map_nil, List.length_cons, List.length_nil, List.cons_append, List.nil_append, recv, sem1, sem2, optB, truthR, truth, seqL, isI, calm1, calm2, cfN_hot, cfN_m, cfN_call, cfN_glo, cfN_sub, cfN_sve, cfN_exn, Bool.false_and, Bool.true_and, Bool.and_true, Bool.and_false, Bool.or_true, Bool.true_or, Bool.or_false, Bool.false_or, Bool.not_true, Bool.not_false, if_true, if_false, Bool.false_eq_true, reduceIte, Option.map_some, Option.map_none, reduceCtorEq, ixD, atI_0, atI_1, atI_2, atI_3, atI_4, atI_5, atI_6, atI_7, atI_8, atI_9, atI_10, atI_11, atI_12, atI_nat', decide_true, decide_false, Bool.and_self, Option.isSome_some, Option.isSome_none, eqD_int, eqD_str, List.append_nil, stays_lst', stays_non', stays_tup', stays_str', stays_dic', wipeE, List.foldr_cons, List.foldr_nil, setV, mkL, mkD, items, lineN, Nat.reduceLeDiff,  List.reduceReplicate, Nat.reduceAdd, Nat.reduceSub, e2, e24, eqD_pair m2]
        exact ⟨_, _, rfl, rest, _, rfl, fun w hw => hm w (by simp [hw]), rfl, B2, u'.trans u2⟩) [.str way, .str (way ++ side v4), .str (way.take v2 ++ [c] ++ way.drop v2)] _ _ ⟨[way, way ++ side v4, way.take v2 ++ [c] ++ way.drop v2], none, rfl, by
        intro w hw
        simp only [List.mem_cons, List.not_mem_nil, or_false] at hw
        rcases hw with rfl | rfl | rfl
        · exact ⟨a1, ch⟩
        · refine ⟨a2, fun c hc => ?_⟩
          simp only [List.mem_append, side, List.mem_singleton] at hc
          rcases hc with hc | rfl
          · exact ch c hc
          · omega
        · refine ⟨a3, fun d hd => ?_⟩
          simp only [List.mem_append, List.mem_singleton] at hd
          rcases hd with (hd | rfl) | hd
          · exact ch d (List.mem_of_mem_take hd)
          · omega
          · exact ch d (List.mem_of_mem_drop hd), rfl, B4, u4'⟩
  cases rest with
  | cons _ _ => cases hx5
  | nil =>
    refine ⟨h5, ?_, B5, u5⟩
    rw [callF K.f28 rfl rfl rfl]
    simp -implicitDefEqProofs -dsimp only [C3.refused, Out.andThen_nx, Out.andThen_rt, Out.andThen_ex, Out.andThen_st, R.bind_ok, R.bind_ex, R.bind_st, R.nox_ok, fromR_ok, fromR_ex, fromR_st, bnd_ok, bnd_ex, bnd_st, frm_ok, frm_ex, frm_st, thn_nx, thn_rt, thn_ex, thn_st, trO_ex, trO_nx, trO_rt, e_var, e_non, e_bl, e_int, e_str, e_glo, e_op1, e_op2, e_op3, e_cmp, e_cmp3, e_and, e_or, e_not, e_ite, e_tup, e_lst, e_dct0, e_set0, e_call, e_new, e_fld, e_lc, e_dc, e_isE, e_isV, e_atE, t_cmp, t_cmp3, t_and, t_or, t_not, t_ite, t_var, t_bl, t_op1, t_op2, t_call, t_fld, t_isE, t_isV, x_nil, x_cons, a_nil, a_ex, a_ec, r_e, r_rng1, r_rng2, s_expr, s_set, s_unp, s_seti, s_setf, s_ret, s_raise, s_ite, s_whl, s_for, s_tr, s_pass, ss_nil, ss_cons, getV, optV, List.getElem?_cons_zero, List.getElem?_cons_succ, List.set_cons_zero, List.set_cons_succ, startE, List.map_cons, List.map_nil, List.length_cons, List.length_nil, List.cons_append, List.nil_append, recv, sem1, sem2, optB, truthR, truth, seqL, isI, calm1, calm2, cfN_hot, cfN_m, cfN_call, cfN_glo, cfN_sub, cfN_sve, cfN_exn, Bool.false_and, Bool.true_and, Bool.and_true, Bool.and_false, Bool.or_true, Bool.true_or, Bool.or_false, Bool.false_or, Bool.not_true, Bool.not_false, if_true, if_false, Bool.false_eq_true, reduceIte, Option.map_some, Option.map_none, reduceCtorEq, ixD, atI_0, atI_1, atI_2, atI_3, atI_4, atI_5, atI_6, atI_7, atI_8, atI_9, atI_10, atI_11, atI_12, atI_nat', decide_true, decide_false, Bool.and_self, Option.isSome_some, Option.isSome_none, eqD_int, eqD_str, List.append_nil, stays_lst', stays_non', stays_tup', stays_str', stays_dic', wipeE, List.foldr_cons, List.foldr_nil, setV, mkL, mkD, items, lineN, Nat.reduceLeDiff,  List.reduceReplicate, Nat.reduceAdd, Nat.reduceSub, e0, eqD_pair cx, e1, List.getElem?_map, hk, e2, w1, e3, hc, e4, lg, istr_side l4, slice, cut_to, cut_from, w2, w3, w3', w4, e5]
    exact exit_rt rfl (List.take_of_length_le (by simp [u5.1]))
end
end Q
end FV

namespace FV
namespace Q
open PySem

/-- leaves that no tree has -/
def BadL (l : List D) : Prop := ∀ ns : List Cs, l = ns.map .str → (∀ x ∈ ns, isNmC x = true) → ns.Nodup → ns.length ≤ 12 → False
theorem isTr_bad {d : D} (h : BadL (lv d)) : isTr d = false := by
  cases e : isTr d with
  | false => rfl
  | true =>
    obtain ⟨ns, a, b, c, _, f⟩ := goT_only (lv d) [] (by simp) e
    exact (h ns a b c (by simpa using f)).elim
theorem bad_mem {l : List D} {x : D} (hx : x ∈ l) (h : isNm x = false) : BadL l := by
  intro ns e hn _ _
  subst e
  obtain ⟨s, hs, rfl⟩ := List.mem_map.1 hx
  rw [isNm, hn s hs] at h
  cases h
theorem map_str_inj {a b : List Cs} (h : a.map D.str = b.map D.str) : a = b := by
  induction a generalizing b with
  | nil => cases b with
    | nil => rfl
    | cons _ _ => cases h
  | cons x a ih => cases b with
    | nil => cases h
    | cons y b =>
      simp only [List.map_cons, List.cons.injEq, D.str.injEq] at h
      rw [h.1, ih h.2]
theorem bad_sub {a l b : List D} (h : BadL l) : BadL (a ++ l ++ b) := by
  intro ns e hn nd hl
  have e1 := congrArg List.length e
  simp only [List.length_append, List.length_map] at e1
  refine h ((ns.drop a.length).take l.length) ?_ (fun x hx => hn x (List.mem_of_mem_drop (List.mem_of_mem_take hx))) ((nd.sublist (List.drop_sublist _ _)).sublist (List.take_sublist _ _)) ?_
  · rw [List.map_take, List.map_drop, ← e, List.append_assoc, List.drop_left, List.take_left]
  · rw [List.length_take, List.length_drop]; omega
theorem bad_twice {l : List D} (h : l ≠ []) : BadL (l ++ l) := by
  intro ns e hn nd hl
  have e1 := congrArg List.length e
  simp only [List.length_append, List.length_map] at e1
  have e2 : l = (ns.take l.length).map .str := by rw [List.map_take, ← e, List.take_left]
  have e3 : l = (ns.drop l.length).map .str := by rw [List.map_drop, ← e, List.drop_left]
  have e4 := map_str_inj (e2.symm.trans e3)
  have hp : 0 < l.length := List.length_pos_iff.2 h
  obtain ⟨x, hx⟩ : ∃ x, x ∈ ns.take l.length := List.exists_mem_of_length_pos (by simp; omega)
  rw [← List.take_append_drop l.length ns] at nd
  exact (List.nodup_append.1 nd).2.2 x hx x (e4 ▸ hx) rfl
theorem bad_len {l : List D} (h : 12 < l.length) : BadL l := by
  intro ns e _ _ hl
  subst e
  simp at h
  omega
theorem Tr.lv_flat : ∀ t : Tr, lv t.val = t.leaves.flatMap lv
  | .leaf x => by simp [Tr.val, Tr.leaves]
  | .fork a b => by rw [Tr.val, lv_pair, Tr.lv_flat a, Tr.lv_flat b]; simp [Tr.leaves]
theorem Tr.nodes_le {c : Nat} : ∀ t : Tr, (∀ x ∈ t.leaves, Q.nodes x ≤ c) → Q.nodes t.val + 1 ≤ (c + 1) * t.leaves.length
  | .leaf x, h => by
    have := h x (by simp [Tr.leaves])
    simp [Tr.val, Tr.leaves]; omega
  | .fork a b, h => by
    have ha := Tr.nodes_le a (fun x hx => h x (by simp [Tr.leaves, hx]))
    have hb := Tr.nodes_le b (fun x hx => h x (by simp [Tr.leaves, hx]))
    rw [Tr.val, nodes_pair, Tr.leaves, List.length_append, Nat.mul_add]
    omega
theorem nodes_leaf {d : D} (h : isPair d = false) : nodes d = 1 := by
  rw [nodes]
  intro a b e
  subst e
  cases h
theorem noTr_of {t : Tr} {c : Nat} (h1 : ∀ x ∈ t.leaves, okd x ∧ Q.nodes x ≤ c) (hc : (c + 1) * t.leaves.length ≤ 1000000) (h2 : BadL (lv t.val)) : NoTr t.val := by
  refine ⟨fun x hx => ?_, ?_, isTr_bad h2⟩
  · rw [Tr.lv_flat, List.mem_flatMap] at hx
    obtain ⟨y, hy, hx⟩ := hx
    exact (h1 y hy).1 x hx
  · have := Tr.nodes_le (c := c) t fun x hx => (h1 x hx).2
    omega
theorem okd_leaf {d : D} (h : isPair d = false) (ht : tidy d = true) : okd d := fun x hx => by
  rw [lv_leaf h] at hx
  simp only [List.mem_singleton] at hx
  subst hx
  exact ht
theorem okd_name {x : Cs} (h : isNameC x) : okd (.str x) := okd_leaf rfl (by have := h.2.1; simp [tidy]; omega)

/-- an odd leaf -/
structure Odd (d : D) : Prop where
  nb : Q.nb d
  ok : okd d
  sz : Q.nodes d ≤ 3
  bad : BadL (lv d)
theorem odd_of {d : D} (h : isPair d = false) (hb : nb d) (ht : tidy d = true) (hn : isNm d = false) : Odd d :=
  ⟨hb, okd_leaf h ht, by rw [nodes_leaf h]; decide, by rw [lv_leaf h]; exact bad_mem (List.mem_singleton_self d) hn⟩
theorem odd_pair {x : Cs} (hx : isNameC x) : Odd (.tup [.str x, .str x]) := by
  refine ⟨by simp [nb, below, belows], fun y hy => ?_, ?_, ?_⟩
  · rw [lv_pair, lv_leaf rfl] at hy
    simp only [List.cons_append, List.nil_append, List.mem_cons, List.not_mem_nil, or_false, or_self] at hy
    subst hy
    have := hx.2.1
    simp [tidy]; omega
  · rw [nodes_pair, nodes_leaf rfl]; decide
  · rw [lv_pair]
    exact bad_twice (by rw [lv_leaf rfl]; simp)

section
variable {T : Tb} (K : Tb3 T)
include K
theorem odd_leaf_ok {x f s : Cs} (hx : isNameC x) (hf : isNameC f) (hs : isNameC s) {n mc j r : Nat} {h : Hb} (hn : 3 ≤ n) (B : Bag h j (r + 10)) :
    ∃ d h', callN T n false mc 19 [.v (.box j), .v (.str x), .v (.str f), .v (.str s)] h = .ok d h' ∧ Odd d ∧ Bag h' j r ∧ Upd j h h' := by
  obtain ⟨n, rfl⟩ : ∃ k, n = k + 1 := ⟨n - 1, by omega⟩
  have hxl := hx.2.1
  obtain ⟨v1, h1, e1, l1, B1, u1⟩ := draw K.draws (n := n) (mc := h.length) (r := r + 8) 10 (by omega) B (by decide) (by decide)
  rw [show ((10 : Nat) : Int) = 10 from rfl] at e1
  obtain ⟨c, hc, hc2⟩ : ∃ c, ([96, 123, 65, 90, 48, 57, 95, 32, 45, 46] : Cs)[v1]? = some c ∧ (c < 97 ∨ 122 < c) := by
    have : ∀ k : Fin 10, ∃ c, ([96, 123, 65, 90, 48, 57, 95, 32, 45, 46] : Cs)[k.1]? = some c ∧ (c < 97 ∨ 122 < c) := by decide
    exact this ⟨v1, l1⟩
  obtain ⟨v2, h2, e2, l2, B2, u2⟩ := draw K.draws (n := n) (mc := h.length) (r := r + 6) (x.length + 1) (by omega) B1 (by omega) (by omega)
  rw [show ((x.length + 1 : Nat) : Int) = (x.length : Int) + 1 from rfl] at e2
  obtain ⟨v3, h3, e3, l3, B3, u3⟩ := draw K.draws (n := n) (mc := h.length) (r := r + 4) 5 (by omega) B2 (by decide) (by decide)
  rw [show ((5 : Nat) : Int) = 5 from rfl] at e3
  obtain ⟨v4, h4, e4, l4, B4, u4⟩ := draw K.draws (n := n) (mc := h.length) (r := r + 2) 4 (by omega) B3 (by decide) (by decide)
  rw [show ((4 : Nat) : Int) = 4 from rfl] at e4
  obtain ⟨v5, h5, e5, l5, B5, u5⟩ := draw K.draws (n := n) (mc := h.length) (r := r) 6 (by omega) B4 (by decide) (by decide)
  rw [show ((6 : Nat) : Int) = 6 from rfl] at e5
  have u := (((u1.trans u2).trans u3).trans u4).trans u5
  have p1 : arith (fun i j => 0 ≤ j ∧ j ≤ 1000000 ∧ i.natAbs < 2 ^ 64) (fun i j => i ^ j.toNat) (.int 10) (.int 20) h4 = .ok (.int 100000000000000000000) h4 := by
    rw [arith_pos (by decide)]; rfl
  have w1 : x.length ≤ 16777216 := by omega
  have w2 : x.length + 15 ≤ 16777216 := by omega
  have w3 : (x.take v2).length + 1 ≤ 16777216 := by simp; omega
  have w4 : (x.take v2 ++ [c]).length + (x.drop v2).length ≤ 16777216 := by simp; omega
  have c3 : (9 : Int) + (v3 : Int) = ((9 + v3 : Nat) : Int) := by omega
  have w5 : (x ++ [97, 98, 99, 100, 101, 102, 103, 104, 105, 106, 107, 108, 109, 110, 111]).length ≤ 16777216 := by simp; omega
  have s1 : Odd (.str (x.take v2 ++ [c] ++ x.drop v2)) := odd_of rfl rfl (by simp [tidy]; omega) (by
    rw [isNm]
    cases e : isNmC (x.take v2 ++ [c] ++ x.drop v2) with
    | false => rfl
    | true =>
      have := (isNmC_iff.1 e).2.2 c (by simp)
      omega)
  have s2 : Odd (.str ((x ++ [97, 98, 99, 100, 101, 102, 103, 104, 105, 106, 107, 108, 109, 110, 111]).take (9 + v3))) := odd_of rfl rfl (by simp [tidy]; omega) (by
    rw [isNm]
    cases e : isNmC ((x ++ [97, 98, 99, 100, 101, 102, 103, 104, 105, 106, 107, 108, 109, 110, 111]).take (9 + v3)) with
    | false => rfl
    | true =>
      have a := (isNmC_iff.1 e).2.1
      have b := hx.1
      simp at a
      omega)
  have s0 : Odd (.str []) := odd_of rfl rfl rfl rfl
  obtain ⟨a3, g3, o3⟩ : ∃ a, [D.non, .int 0, .bl true, .int 100000000000000000000][v4]? = some a ∧ Odd a := by
    match v4, l4 with
    | 0, _ => exact ⟨_, rfl, odd_of rfl rfl rfl rfl⟩
    | 1, _ => exact ⟨_, rfl, odd_of rfl rfl rfl rfl⟩
    | 2, _ => exact ⟨_, rfl, odd_of rfl rfl rfl rfl⟩
    | 3, _ => exact ⟨_, rfl, odd_of rfl rfl rfl rfl⟩
  obtain ⟨a4, g4, o4⟩ : ∃ a, [D.lst [], .tup [], .dic [] [], .tup [.str x]][v4]? = some a ∧ Odd a := by
    match v4, l4 with
    | 0, _ => exact ⟨_, rfl, odd_of rfl rfl rfl rfl⟩
    | 1, _ => exact ⟨_, rfl, odd_of rfl rfl rfl rfl⟩
    | 2, _ => exact ⟨_, rfl, odd_of rfl rfl rfl rfl⟩
    | 3, _ => exact ⟨_, rfl, odd_of rfl rfl rfl rfl⟩
  obtain ⟨a5, g5, o5⟩ : ∃ a, [D.lst [.str x], .tup [.str x, .str x], .tup [.str x, .str f, .str s], .lst [.str x, .str f]][v4]? = some a ∧ Odd a := by
    match v4, l4 with
    | 0, _ => exact ⟨_, rfl, odd_of rfl rfl rfl rfl⟩
    | 1, _ => exact ⟨_, rfl, odd_pair hx⟩
    | 2, _ => exact ⟨_, rfl, odd_of rfl rfl rfl rfl⟩
    | 3, _ => exact ⟨_, rfl, odd_of rfl rfl rfl rfl⟩
  obtain ⟨d, gd, od⟩ : ∃ a, [D.str [], .str (x.take v2 ++ [c] ++ x.drop v2), .str ((x ++ [97, 98, 99, 100, 101, 102, 103, 104, 105, 106, 107, 108, 109, 110, 111]).take (9 + v3)), a3, a4, a5][v5]? = some a ∧ Odd a := by
    match v5, l5 with
    | 0, _ => exact ⟨_, rfl, s0⟩
    | 1, _ => exact ⟨_, rfl, s1⟩
    | 2, _ => exact ⟨_, rfl, s2⟩
    | 3, _ => exact ⟨_, rfl, o3⟩
    | 4, _ => exact ⟨_, rfl, o4⟩
    | 5, _ => exact ⟨_, rfl, o5⟩
  refine ⟨d, h5, ?_, od, B5, u⟩
  rw [callF K.f19 rfl rfl rfl]
  simp -implicitDefEqProofs -dsimp only [C3.odd_leaf, Out.andThen_nx, Out.andThen_rt, Out.andThen_ex, Out.andThen_st, R.bind_ok, R.bind_ex, R.bind_st, R.nox_ok, fromR_ok, fromR_ex, fromR_st, bnd_ok, bnd_ex, bnd_st, frm_ok, frm_ex, frm_st, thn_nx, thn_rt, thn_ex, thn_st, trO_ex, trO_nx, trO_rt, e_var, e_non, e_bl, e_int, e_str, e_glo, e_op1, e_op2, e_op3, e_cmp, e_cmp3, e_and, e_or, e_not, e_ite, e_tup, e_lst, e_dct0, e_set0, e_call, e_new, e_fld, e_lc, e_dc, e_isE, e_isV, e_atE, t_cmp, t_cmp3, t_and, t_or, t_not, t_ite, t_var, t_bl, t_op1, t_op2, t_call, t_fld, t_isE, t_isV, x_nil, x_cons, a_nil, a_ex, a_ec, r_e, r_rng1, r_rng2, s_expr, s_set, s_unp, s_seti, s_setf, s_ret, s_raise, s_ite, s_whl, s_for, s_tr, s_pass, ss_nil, ss_cons, getV, optV, List.getElem?_cons_zero, List.getElem?_cons_succ, List.set_cons_zero, List.set_cons_succ, startE, List.map_cons, List.map_nil, List.length_cons, List.length_nil, List.cons_append, List.nil_append, recv, sem1, sem2, optB, truthR, truth, seqL, isI, calm1, calm2, cfN_hot, cfN_m, cfN_call, cfN_glo, cfN_sub, cfN_sve, cfN_exn, Bool.false_and, Bool.true_and, Bool.and_true, Bool.and_false, Bool.or_true, Bool.true_or, Bool.or_false, Bool.false_or, Bool.not_true, Bool.not_false, if_true, if_false, Bool.false_eq_true, reduceIte, Option.map_some, Option.map_none, reduceCtorEq, ixD, atI_0, atI_1, atI_2, atI_3, atI_4, atI_5, atI_6, atI_7, atI_8, atI_9, atI_10, atI_11, atI_12, atI_nat', decide_true, decide_false, Bool.and_self, Option.isSome_some, Option.isSome_none, eqD_int, eqD_str, List.append_nil, stays_lst', stays_non', stays_tup', stays_str', stays_dic', wipeE, List.foldr_cons, List.foldr_nil, setV, mkL, mkD, items, lineN, Nat.reduceLeDiff,  List.reduceReplicate, Nat.reduceAdd, Nat.reduceSub, e1, hc, w1, e2, w2, e3, c3, slice, cut_to, cut_from, w5, e4, w3, w4, p1, g3, g4, g5, e5, gd]
  exact exit_rt od.nb (List.take_of_length_le (by simp [u.1]))

/-- a tree with an odd fork -/
def oddV : Tr → Cs → Nat → D → D
  | .leaf x, _, _, _ => x
  | .fork a b, [], c, sp => ([D.lst [a.val, b.val], .tup [a.val], .tup [a.val, b.val, sp], .tup [a.val, a.val]][c]?).getD .non
  | .fork a b, 48 :: w, c, sp => .tup [oddV a w c sp, b.val]
  | .fork a b, _ :: w, c, sp => .tup [a.val, oddV b w c sp]

omit K in
theorem oddV_nb : ∀ (t : Tr) (w : Cs) (c : Nat) (sp : D), belows 0 t.leaves = true → nb sp → nb (oddV t w c sp)
  | .leaf x, _, _, _, h, _ => by simpa [Tr.leaves, belows, oddV] using h
  | .fork a b, [], c, sp, h, hs => by
    have hb' := belows_all.1 h
    have ha : nb a.val := Tr.nb_val a (belows_all.2 fun x hx => hb' x (by simp [Tr.leaves, hx]))
    have hb : nb b.val := Tr.nb_val b (belows_all.2 fun x hx => hb' x (by simp [Tr.leaves, hx]))
    simp only [nb] at ha hb hs
    match c with
    | 0 => simp [oddV, nb, below, belows, ha, hb]
    | 1 => simp [oddV, nb, below, belows, ha]
    | 2 => simp [oddV, nb, below, belows, ha, hb, hs]
    | 3 => simp [oddV, nb, below, belows, ha]
    | _ + 4 => rfl
  | .fork a b, s :: w, c, sp, h, hs => by
    have hb' := belows_all.1 h
    have ha0 : belows 0 a.leaves = true := belows_all.2 fun x hx => hb' x (by simp [Tr.leaves, hx])
    have hb0 : belows 0 b.leaves = true := belows_all.2 fun x hx => hb' x (by simp [Tr.leaves, hx])
    have ha : nb a.val := Tr.nb_val a ha0
    have hb : nb b.val := Tr.nb_val b hb0
    have oa := oddV_nb a w c sp ha0 hs
    have ob := oddV_nb b w c sp hb0 hs
    simp only [nb] at ha hb oa ob
    by_cases e : s = 48
    · subst e; simp [oddV, nb, below, belows, oa, hb]
    · simp [oddV, nb, below, belows, ha, ob, e]
omit K in
theorem oddV_facts : ∀ (t : Tr) (w : Cs) (c : Nat) (sp : Cs), strLeaves t → (∀ x ∈ t.leaves, okd x) → isNameC sp → w ∈ t.fks → c < 4 →
    okd (oddV t w c (.str sp)) ∧ Q.nodes (oddV t w c (.str sp)) ≤ 2 * t.nodes + 10 ∧ BadL (lv (oddV t w c (.str sp)))
  | .leaf x, _, _, _, _, _, _, h, _ => by simp [Tr.fks] at h
  | .fork a b, [], c, sp, hs, ho, hn, hw, hc => by
    obtain ⟨sa, sb⟩ := strLeaves_fork hs
    have va := Tr.lv_val a sa
    have na := Tr.nodes_val a sa
    match c, hc with
    | 0, _ => exact ⟨okd_leaf rfl rfl, by rw [show oddV (.fork a b) [] 0 (.str sp) = .lst [a.val, b.val] from rfl, nodes_leaf rfl]; omega, by rw [show oddV (.fork a b) [] 0 (.str sp) = .lst [a.val, b.val] from rfl, lv_leaf rfl]; exact bad_mem (List.mem_singleton_self _) rfl⟩
    | 1, _ => exact ⟨okd_leaf rfl rfl, by rw [show oddV (.fork a b) [] 1 (.str sp) = .tup [a.val] from rfl, nodes_leaf rfl]; omega, by rw [show oddV (.fork a b) [] 1 (.str sp) = .tup [a.val] from rfl, lv_leaf rfl]; exact bad_mem (List.mem_singleton_self _) rfl⟩
    | 2, _ => exact ⟨okd_leaf rfl rfl, by rw [show oddV (.fork a b) [] 2 (.str sp) = .tup [a.val, b.val, .str sp] from rfl, nodes_leaf rfl]; omega, by rw [show oddV (.fork a b) [] 2 (.str sp) = .tup [a.val, b.val, .str sp] from rfl, lv_leaf rfl]; exact bad_mem (List.mem_singleton_self _) rfl⟩
    | 3, _ =>
      rw [show oddV (.fork a b) [] 3 (.str sp) = .tup [a.val, a.val] from rfl]
      refine ⟨fun x hx => ?_, ?_, ?_⟩
      · rw [lv_pair, va] at hx
        simp only [List.mem_append, or_self] at hx
        exact ho x (by simp [Tr.leaves, hx]) x (by
          obtain ⟨s, rfl⟩ := hs x (by simp [Tr.leaves, hx])
          rw [lv_leaf rfl]; simp)
      · rw [nodes_pair, na]; simp [Tr.nodes]; omega
      · rw [lv_pair, va]
        refine bad_twice fun e => ?_
        have := a.pos
        rw [a.len_eq, e] at this
        simp at this
  | .fork a b, s :: w, c, sp, hs, ho, hn, hw, hc => by
    obtain ⟨sa, sb⟩ := strLeaves_fork hs
    have va := Tr.lv_val a sa
    have vb := Tr.lv_val b sb
    have na := Tr.nodes_val a sa
    have nb' := Tr.nodes_val b sb
    have okl : ∀ x, x ∈ (Tr.fork a b).leaves → tidy x = true := fun x hx => ho x hx x (by
      obtain ⟨s, rfl⟩ := hs x hx
      rw [lv_leaf rfl]; simp)
    simp only [Tr.fks, List.mem_cons, List.mem_append, List.mem_map] at hw
    rcases hw with hw | ⟨q, hq, e⟩ | ⟨q, hq, e⟩
    · simp at hw
    · cases e
      obtain ⟨f1, f2, f3⟩ := oddV_facts a w c sp sa (fun x hx => ho x (by simp [Tr.leaves, hx])) hn hq hc
      rw [show oddV (.fork a b) (48 :: w) c (.str sp) = .tup [oddV a w c (.str sp), b.val] from rfl]
      refine ⟨fun x hx => ?_, ?_, ?_⟩
      · rw [lv_pair, vb, List.mem_append] at hx
        rcases hx with hx | hx
        · exact f1 x hx
        · exact okl x (by simp [Tr.leaves, hx])
      · rw [nodes_pair, nb']; simp [Tr.nodes]; omega
      · rw [lv_pair]
        have := bad_sub (a := []) (b := lv b.val) f3
        simpa using this
    · cases e
      obtain ⟨f1, f2, f3⟩ := oddV_facts b w c sp sb (fun x hx => ho x (by simp [Tr.leaves, hx])) hn hq hc
      rw [show oddV (.fork a b) (49 :: w) c (.str sp) = .tup [a.val, oddV b w c (.str sp)] from rfl]
      refine ⟨fun x hx => ?_, ?_, ?_⟩
      · rw [lv_pair, va, List.mem_append] at hx
        rcases hx with hx | hx
        · exact okl x (by simp [Tr.leaves, hx])
        · exact f1 x hx
      · rw [nodes_pair, na]; simp [Tr.nodes]; omega
      · rw [lv_pair]
        have := bad_sub (a := lv a.val) (b := []) f3
        simpa using this

omit K in
/-- the two halves of rows -/
theorem halves (a b : Tr) : (((Tr.fork a b).rows.filter fun p => decide (p.1.take 1 = [48])).map fun p => (p.1.drop 1, p.2)) = a.rows ∧ (((Tr.fork a b).rows.filter fun p => decide (p.1.take 1 = [49])).map fun p => (p.1.drop 1, p.2)) = b.rows := by
  have e0 : ∀ l : List (Cs × D), (l.map (fun p => ((48 :: p.1, p.2) : Cs × D))).map (fun p => (p.1.drop 1, p.2)) = l := fun l => by
    rw [List.map_map]; exact List.map_id'' (fun p => rfl) l
  have e1 : ∀ l : List (Cs × D), (l.map (fun p => ((49 :: p.1, p.2) : Cs × D))).map (fun p => (p.1.drop 1, p.2)) = l := fun l => by
    rw [List.map_map]; exact List.map_id'' (fun p => rfl) l
  have k0 : (Tr.fork a b).rows.filter (fun p => decide (p.1.take 1 = [48])) = a.rows.map (fun p => (48 :: p.1, p.2)) := by
    rw [Tr.rows_fork]; exact half (c := fun w => decide (w.take 1 = [48])) 49 (by decide) (fun x r => by simp) _ _
  have k1 : (Tr.fork a b).rows.filter (fun p => decide (p.1.take 1 = [49])) = b.rows.map (fun p => (49 :: p.1, p.2)) := by
    rw [Tr.rows_fork, List.filter_append]
    have := half (c := fun w => decide (w.take 1 = [49])) (s := 49) 48 (by decide) (fun x r => by simp) b.rows a.rows
    rw [List.filter_append] at this
    have h2 : (a.rows.map (fun p => ((48 :: p.1, p.2) : Cs × D))).filter (fun p => decide (p.1.take 1 = [49])) = [] := by
      rw [List.filter_eq_nil_iff]
      intro p hp
      obtain ⟨q, _, rfl⟩ := List.mem_map.1 hp
      simp
    rw [h2, List.append_nil] at this
    rw [h2, List.nil_append, this]
  rw [k0, k1, e0, e1]
  exact ⟨rfl, rfl⟩

theorem odd_fork_ok : ∀ (t : Tr) (w : Cs) (c : Nat) (sp : D) {n mc : Nat} {h : Hb}, w ∈ t.fks → c < 4 → nb sp → t.hgt + 1 < n → t.small → belows 0 t.leaves = true →
    callN T n false mc 20 [.v (.lst (t.rows.map rowD)), .v (.str w), .v (.int c), .v sp] h = .ok (oddV t w c sp) h
  | .leaf x, w, c, sp, n, mc, h, hw, _, _, _, _, _ => by simp [Tr.fks] at hw
  | .fork a b, w, c, sp, n, mc, h, hw, hc, hsp, hn, hs, hb => by
    obtain ⟨n, rfl⟩ : ∃ k, n = k + 1 := ⟨n - 1, by omega⟩
    have hb0 := hb
    have hpa := a.pos
    have hpb := b.pos
    have hs' : a.paths.length + b.paths.length ≤ 1000 := by simpa [Tr.small, Tr.paths] using hs
    have hb' := belows_all.1 hb
    have hba : belows 0 a.leaves = true := belows_all.2 fun x hx => hb' x (by simp [Tr.leaves, hx])
    have hbb : belows 0 b.leaves = true := belows_all.2 fun x hx => hb' x (by simp [Tr.leaves, hx])
    have sa : a.small := by unfold Tr.small; omega
    have sb : b.small := by unfold Tr.small; omega
    simp only [Tr.hgt] at hn
    have ea := tree_ok K.f17 a (n := n) (mc := h.length) (h := h) (by omega) sa hba
    have eb := tree_ok K.f17 b (n := n) (mc := h.length) (h := h) (by omega) sb hbb
    have hl : (Tr.fork a b).rows.length ≤ lineN := by simp [Tr.rows_len, Tr.paths, lineN]; omega
    have hw1 : ∀ p ∈ (Tr.fork a b).rows, p.1.length ≤ 16777216 := fun p hp => by
      have := Tr.small_len hs (Tr.row_path hp); omega
    obtain ⟨k0, k1⟩ := halves a b
    have z1 : ∀ (σ : Env), σ = [some (.v (.lst ((Tr.fork a b).rows.map rowD))), some (.v (.str w)), some (.v (.int c)), some (.v sp), none, none, none, none, none, none] → lcGo [8, 9] σ (fun _ => true) (evT (cfN T n false h.length) C3.odd_fork_b1) (evE (cfN T n false h.length) C3.odd_fork_b2) ((Tr.fork a b).rows.map rowD) [] h = .ok (a.rows.map rowD) h := by
      rintro σ rfl
      rw [← k0]
      refine rows_half hl ?_
      intro p hp
      have := hw1 p hp
      refine ⟨_, rfl, ?_, ?_⟩
      · simp -implicitDefEqProofs -dsimp only [C3.odd_fork_b1, Out.andThen_nx, Out.andThen_rt, Out.andThen_ex, Out.andThen_st, R.bind_ok, R.bind_ex, R.bind_st, R.nox_ok, fromR_ok, fromR_ex, fromR_st, bnd_ok, bnd_ex, bnd_st, frm_ok, frm_ex, frm_st, thn_nx, thn_rt, thn_ex, thn_st, trO_ex, trO_nx, trO_rt, e_var, e_non, e_bl, e_int, e_str, e_glo, e_op1, e_op2, e_op3, e_cmp, e_cmp3, e_and, e_or, e_not, e_ite, e_tup, e_lst, e_dct0, e_set0, e_call, e_new, e_fld, e_lc, e_dc, e_isE, e_isV, e_atE, t_cmp, t_cmp3, t_and, t_or, t_not, t_ite, t_var, t_bl, t_op1, t_op2, t_call, t_fld, t_isE, t_isV, x_nil, x_cons, a_nil, a_ex, a_ec, r_e, r_rng1, r_rng2, s_expr, s_set, s_unp, s_seti, s_setf, s_ret, s_raise, s_ite, s_whl, s_for, s_tr, s_pass, ss_nil, ss_cons, getV, optV, List.getElem?_cons_zero, List.getElem?_cons_succ, List.set_cons_zero, List.set_cons_succ, startE, List.map_cons, List.map_nil, List.length_cons, List.length_nil, List.cons_append, List.nil_append, recv, sem1, sem2, optB, truthR, truth, seqL, isI, calm1, calm2, cfN_hot, cfN_m, cfN_call, cfN_glo, cfN_sub, cfN_sve, cfN_exn, Bool.false_and, Bool.true_and, Bool.and_true, Bool.and_false, Bool.or_true, Bool.true_or, Bool.or_false, Bool.false_or, Bool.not_true, Bool.not_false, if_true, if_false, Bool.false_eq_true, reduceIte, Option.map_some, Option.map_none, reduceCtorEq, ixD, atI_0, atI_1, atI_2, atI_3, atI_4, atI_5, atI_6, atI_7, atI_8, atI_9, atI_10, atI_11, atI_12, atI_nat', decide_true, decide_false, Bool.and_self, Option.isSome_some, Option.isSome_none, eqD_int, eqD_str, List.append_nil, stays_lst', stays_non', stays_tup', stays_str', stays_dic', wipeE, List.foldr_cons, List.foldr_nil, setV, mkL, mkD, items, lineN, Nat.reduceLeDiff,  List.reduceReplicate, Nat.reduceAdd, Nat.reduceSub, slice, show (1 : Int) = ((1 : Nat) : Int) from rfl, cut_to, this, List.zip_cons_cons, List.foldl_cons, List.foldl_nil, List.zip_nil_left]
      · simp -implicitDefEqProofs -dsimp only [C3.odd_fork_b2, Out.andThen_nx, Out.andThen_rt, Out.andThen_ex, Out.andThen_st, R.bind_ok, R.bind_ex, R.bind_st, R.nox_ok, fromR_ok, fromR_ex, fromR_st, bnd_ok, bnd_ex, bnd_st, frm_ok, frm_ex, frm_st, thn_nx, thn_rt, thn_ex, thn_st, trO_ex, trO_nx, trO_rt, e_var, e_non, e_bl, e_int, e_str, e_glo, e_op1, e_op2, e_op3, e_cmp, e_cmp3, e_and, e_or, e_not, e_ite, e_tup, e_lst, e_dct0, e_set0, e_call, e_new, e_fld, e_lc, e_dc, e_isE, e_isV, e_atE, t_cmp, t_cmp3, t_and, t_or, t_not, t_ite, t_var, t_bl, t_op1, t_op2, t_call, t_fld, t_isE, t_isV, x_nil, x_cons, a_nil, a_ex, a_ec, r_e, r_rng1, r_rng2, s_expr, s_set, s_unp, s_seti, s_setf, s_ret, s_raise, s_ite, s_whl, s_for, s_tr, s_pass, ss_nil, ss_cons, getV, optV, List.getElem?_cons_zero, List.getElem?_cons_succ, List.set_cons_zero, List.set_cons_succ, startE, List.map_cons, List.map_nil, List.length_cons, List.length_nil, List.cons_append, List.nil_append, recv, sem1, sem2, optB, truthR, truth, seqL, isI, calm1, calm2, cfN_hot, cfN_m, cfN_call, cfN_glo, cfN_sub, cfN_sve, cfN_exn, Bool.false_and, Bool.true_and, Bool.and_true, Bool.and_false, Bool.or_true, Bool.true_or, Bool.or_false, Bool.false_or, Bool.not_true, Bool.not_false, if_true, if_false, Bool.false_eq_true, reduceIte, Option.map_some, Option.map_none, reduceCtorEq, ixD, atI_0, atI_1, atI_2, atI_3, atI_4, atI_5, atI_6, atI_7, atI_8, atI_9, atI_10, atI_11, atI_12, atI_nat', decide_true, decide_false, Bool.and_self, Option.isSome_some, Option.isSome_none, eqD_int, eqD_str, List.append_nil, stays_lst', stays_non', stays_tup', stays_str', stays_dic', wipeE, List.foldr_cons, List.foldr_nil, setV, mkL, mkD, items, lineN, Nat.reduceLeDiff,  List.reduceReplicate, Nat.reduceAdd, Nat.reduceSub, slice, show (1 : Int) = ((1 : Nat) : Int) from rfl, cut_from, this, List.zip_cons_cons, List.foldl_cons, List.foldl_nil, List.zip_nil_left]
        rfl
    have z2 : ∀ (σ : Env) (y : Option Sl), σ = [some (.v (.lst ((Tr.fork a b).rows.map rowD))), some (.v (.str w)), some (.v (.int c)), some (.v sp), y, none, none, none, none, none] → lcGo [8, 9] σ (fun _ => true) (evT (cfN T n false h.length) C3.odd_fork_b3) (evE (cfN T n false h.length) C3.odd_fork_b4) ((Tr.fork a b).rows.map rowD) [] h = .ok (b.rows.map rowD) h := by
      rintro σ y rfl
      rw [← k1]
      refine rows_half hl ?_
      intro p hp
      have := hw1 p hp
      refine ⟨_, rfl, ?_, ?_⟩
      · simp -implicitDefEqProofs -dsimp only [C3.odd_fork_b3, Out.andThen_nx, Out.andThen_rt, Out.andThen_ex, Out.andThen_st, R.bind_ok, R.bind_ex, R.bind_st, R.nox_ok, fromR_ok, fromR_ex, fromR_st, bnd_ok, bnd_ex, bnd_st, frm_ok, frm_ex, frm_st, thn_nx, thn_rt, thn_ex, thn_st, trO_ex, trO_nx, trO_rt, e_var, e_non, e_bl, e_int, e_str, e_glo, e_op1, e_op2, e_op3, e_cmp, e_cmp3, e_and, e_or, e_not, e_ite, e_tup, e_lst, e_dct0, e_set0, e_call, e_new, e_fld, e_lc, e_dc, e_isE, e_isV, e_atE, t_cmp, t_cmp3, t_and, t_or, t_not, t_ite, t_var, t_bl, t_op1, t_op2, t_call, t_fld, t_isE, t_isV, x_nil, x_cons, a_nil, a_ex, a_ec, r_e, r_rng1, r_rng2, s_expr, s_set, s_unp, s_seti, s_setf, s_ret, s_raise, s_ite, s_whl, s_for, s_tr, s_pass, ss_nil, ss_cons, getV, optV, List.getElem?_cons_zero, List.getElem?_cons_succ, List.set_cons_zero, List.set_cons_succ, startE, List.map_cons, List.map_nil, List.length_cons, List.length_nil, List.cons_append, List.nil_append, recv, sem1, sem2, optB, truthR, truth, seqL, isI, calm1, calm2, cfN_hot, cfN_m, cfN_call, cfN_glo, cfN_sub, cfN_sve, cfN_exn, Bool.false_and, Bool.true_and, Bool.and_true, Bool.and_false, Bool.or_true, Bool.true_or, Bool.or_false, Bool.false_or, Bool.not_true, Bool.not_false, if_true, if_false, Bool.false_eq_true, reduceIte, Option.map_some, Option.map_none, reduceCtorEq, ixD, atI_0, atI_1, atI_2, atI_3, atI_4, atI_5, atI_6, atI_7, atI_8, atI_9, atI_10, atI_11, atI_12, atI_nat', decide_true, decide_false, Bool.and_self, Option.isSome_some, Option.isSome_none, eqD_int, eqD_str, List.append_nil, stays_lst', stays_non', stays_tup', stays_str', stays_dic', wipeE, List.foldr_cons, List.foldr_nil, setV, mkL, mkD, items, lineN, Nat.reduceLeDiff,  List.reduceReplicate, Nat.reduceAdd, Nat.reduceSub, slice, show (1 : Int) = ((1 : Nat) : Int) from rfl, cut_to, this, List.zip_cons_cons, List.foldl_cons, List.foldl_nil, List.zip_nil_left]
      · simp -implicitDefEqProofs -dsimp only [C3.odd_fork_b4, Out.andThen_nx, Out.andThen_rt, Out.andThen_ex, Out.andThen_st, R.bind_ok, R.bind_ex, R.bind_st, R.nox_ok, fromR_ok, fromR_ex, fromR_st, bnd_ok, bnd_ex, bnd_st, frm_ok, frm_ex, frm_st, thn_nx, thn_rt, thn_ex, thn_st, trO_ex, trO_nx, trO_rt, e_var, e_non, e_bl, e_int, e_str, e_glo, e_op1, e_op2, e_op3, e_cmp, e_cmp3, e_and, e_or, e_not, e_ite, e_tup, e_lst, e_dct0, e_set0, e_call, e_new, e_fld, e_lc, e_dc, e_isE, e_isV, e_atE, t_cmp, t_cmp3, t_and, t_or, t_not, t_ite, t_var, t_bl, t_op1, t_op2, t_call, t_fld, t_isE, t_isV, x_nil, x_cons, a_nil, a_ex, a_ec, r_e, r_rng1, r_rng2, s_expr, s_set, s_unp, s_seti, s_setf, s_ret, s_raise, s_ite, s_whl, s_for, s_tr, s_pass, ss_nil, ss_cons, getV, optV, List.getElem?_cons_zero, List.getElem?_cons_succ, List.set_cons_zero, List.set_cons_succ, startE, List.map_cons, List.map_nil, List.length_cons, List.length_nil, List.cons_append, List.nil_append, recv, sem1, sem2, optB, truthR, truth, seqL, isI, calm1, calm2, cfN_hot, cfN_m, cfN_call, cfN_glo, cfN_sub, cfN_sve, cfN_exn, Bool.false_and, Bool.true_and, Bool.and_true, Bool.and_false, Bool.or_true, Bool.true_or, Bool.or_false, Bool.false_or, Bool.not_true, Bool.not_false, if_true, if_false, Bool.false_eq_true, reduceIte, Option.map_some, Option.map_none, reduceCtorEq, ixD, atI_0, atI_1, atI_2, atI_3, atI_4, atI_5, atI_6, atI_7, atI_8, atI_9, atI_10, atI_11, atI_12, atI_nat', decide_true, decide_false, Bool.and_self, Option.isSome_some, Option.isSome_none, eqD_int, eqD_str, List.append_nil, stays_lst', stays_non', stays_tup', stays_str', stays_dic', wipeE, List.foldr_cons, List.foldr_nil, setV, mkL, mkD, items, lineN, Nat.reduceLeDiff,  List.reduceReplicate, Nat.reduceAdd, Nat.reduceSub, slice, show (1 : Int) = ((1 : Nat) : Int) from rfl, cut_from, this, List.zip_cons_cons, List.foldl_cons, List.foldl_nil, List.zip_nil_left]
        rfl
    have onb := oddV_nb (.fork a b) w c sp hb0 hsp
    have tk : h.take h.length = h := List.take_of_length_le (Nat.le_refl _)
    have hwl : w.length ≤ 16777216 := by
      have := fks_len _ w hw
      have := (Tr.fork a b).hgt_lt
      have : (Tr.fork a b).paths.length ≤ 1000 := hs
      omega
    rw [callF K.f20 rfl rfl rfl]
    simp only [Tr.fks, List.mem_cons, List.mem_append, List.mem_map] at hw
    rcases hw with rfl | ⟨q, hq, rfl⟩ | ⟨q, hq, rfl⟩
    · obtain ⟨d, hd⟩ : ∃ d, [D.lst [a.val, b.val], .tup [a.val], .tup [a.val, b.val, sp], .tup [a.val, a.val]][c]? = some d := ⟨_, List.getElem?_eq_getElem (by simpa using hc)⟩
      have hd2 : oddV (.fork a b) [] c sp = d := by rw [oddV, hd]; rfl
      rw [hd2] at onb ⊢
      simp -implicitDefEqProofs -dsimp only [C3.odd_fork, Out.andThen_nx, Out.andThen_rt, Out.andThen_ex, Out.andThen_st, R.bind_ok, R.bind_ex, R.bind_st, R.nox_ok, fromR_ok, fromR_ex, fromR_st, bnd_ok, bnd_ex, bnd_st, frm_ok, frm_ex, frm_st, thn_nx, thn_rt, thn_ex, thn_st, trO_ex, trO_nx, trO_rt, e_var, e_non, e_bl, e_int, e_str, e_glo, e_op1, e_op2, e_op3, e_cmp, e_cmp3, e_and, e_or, e_not, e_ite, e_tup, e_lst, e_dct0, e_set0, e_call, e_new, e_fld, e_lc, e_dc, e_isE, e_isV, e_atE, t_cmp, t_cmp3, t_and, t_or, t_not, t_ite, t_var, t_bl, t_op1, t_op2, t_call, t_fld, t_isE, t_isV, x_nil, x_cons, a_nil, a_ex, a_ec, r_e, r_rng1, r_rng2, s_expr, s_set, s_unp, s_seti, s_setf, s_ret, s_raise, s_ite, s_whl, s_for, s_tr, s_pass, ss_nil, ss_cons, getV, optV, List.getElem?_cons_zero, List.getElem?_cons_succ, List.set_cons_zero, List.set_cons_succ, startE, List.map_cons, List.map_nil, List.length_cons, List.length_nil, List.cons_append, List.nil_append, recv, sem1, sem2, optB, truthR, truth, seqL, isI, calm1, calm2, cfN_hot, cfN_m, cfN_call, cfN_glo, cfN_sub, cfN_sve, cfN_exn, Bool.false_and, Bool.true_and, Bool.and_true, Bool.and_false, Bool.or_true, Bool.true_or, Bool.or_false, Bool.false_or, Bool.not_true, Bool.not_false, if_true, if_false, Bool.false_eq_true, reduceIte, Option.map_some, Option.map_none, reduceCtorEq, ixD, atI_0, atI_1, atI_2, atI_3, atI_4, atI_5, atI_6, atI_7, atI_8, atI_9, atI_10, atI_11, atI_12, atI_nat', decide_true, decide_false, Bool.and_self, Option.isSome_some, Option.isSome_none, eqD_int, eqD_str, List.append_nil, stays_lst', stays_non', stays_tup', stays_str', stays_dic', wipeE, List.foldr_cons, List.foldr_nil, setV, mkL, mkD, items, lineN, Nat.reduceLeDiff,  List.reduceReplicate, Nat.reduceAdd, Nat.reduceSub, z1 _ rfl, z2 _ _ rfl, ea, eb, hd]
      exact exit_rt onb tk
    · have e1 := odd_fork_ok a q c sp (n := n) (mc := h.length) (h := h) hq hc hsp (by omega) sa hba
      simp only [List.length_cons] at hwl
      simp -implicitDefEqProofs -dsimp only [C3.odd_fork, Out.andThen_nx, Out.andThen_rt, Out.andThen_ex, Out.andThen_st, R.bind_ok, R.bind_ex, R.bind_st, R.nox_ok, fromR_ok, fromR_ex, fromR_st, bnd_ok, bnd_ex, bnd_st, frm_ok, frm_ex, frm_st, thn_nx, thn_rt, thn_ex, thn_st, trO_ex, trO_nx, trO_rt, e_var, e_non, e_bl, e_int, e_str, e_glo, e_op1, e_op2, e_op3, e_cmp, e_cmp3, e_and, e_or, e_not, e_ite, e_tup, e_lst, e_dct0, e_set0, e_call, e_new, e_fld, e_lc, e_dc, e_isE, e_isV, e_atE, t_cmp, t_cmp3, t_and, t_or, t_not, t_ite, t_var, t_bl, t_op1, t_op2, t_call, t_fld, t_isE, t_isV, x_nil, x_cons, a_nil, a_ex, a_ec, r_e, r_rng1, r_rng2, s_expr, s_set, s_unp, s_seti, s_setf, s_ret, s_raise, s_ite, s_whl, s_for, s_tr, s_pass, ss_nil, ss_cons, getV, optV, List.getElem?_cons_zero, List.getElem?_cons_succ, List.set_cons_zero, List.set_cons_succ, startE, List.map_cons, List.map_nil, List.length_cons, List.length_nil, List.cons_append, List.nil_append, recv, sem1, sem2, optB, truthR, truth, seqL, isI, calm1, calm2, cfN_hot, cfN_m, cfN_call, cfN_glo, cfN_sub, cfN_sve, cfN_exn, Bool.false_and, Bool.true_and, Bool.and_true, Bool.and_false, Bool.or_true, Bool.true_or, Bool.or_false, Bool.false_or, Bool.not_true, Bool.not_false, if_true, if_false, Bool.false_eq_true, reduceIte, Option.map_some, Option.map_none, reduceCtorEq, ixD, atI_0, atI_1, atI_2, atI_3, atI_4, atI_5, atI_6, atI_7, atI_8, atI_9, atI_10, atI_11, atI_12, atI_nat', decide_true, decide_false, Bool.and_self, Option.isSome_some, Option.isSome_none, eqD_int, eqD_str, List.append_nil, stays_lst', stays_non', stays_tup', stays_str', stays_dic', wipeE, List.foldr_cons, List.foldr_nil, setV, mkL, mkD, items, lineN, Nat.reduceLeDiff,  List.reduceReplicate, Nat.reduceAdd, Nat.reduceSub, z1 _ rfl, z2 _ _ rfl, slice, show (1 : Int) = ((1 : Nat) : Int) from rfl, cut_to, cut_from, hwl, List.take_succ_cons, List.take_zero, List.drop_succ_cons, List.drop_zero, e1, eb]
      exact exit_rt onb tk
    · have e1 := odd_fork_ok b q c sp (n := n) (mc := h.length) (h := h) hq hc hsp (by omega) sb hbb
      simp only [List.length_cons] at hwl
      simp -implicitDefEqProofs -dsimp only [C3.odd_fork, Out.andThen_nx, Out.andThen_rt, Out.andThen_ex, Out.andThen_st, R.bind_ok, R.bind_ex, R.bind_st, R.nox_ok, fromR_ok, fromR_ex, fromR_st, bnd_ok, bnd_ex, bnd_st, frm_ok, frm_ex, frm_st, thn_nx, thn_rt, thn_ex, thn_st, trO_ex, trO_nx, trO_rt, e_var, e_non, e_bl, e_int, e_str, e_glo, e_op1, e_op2, e_op3, e_cmp, e_cmp3, e_and, e_or, e_not, e_ite, e_tup, e_lst, e_dct0, e_set0, e_call, e_new, e_fld, e_lc, e_dc, e_isE, e_isV, e_atE, t_cmp, t_cmp3, t_and, t_or, t_not, t_ite, t_var, t_bl, t_op1, t_op2, t_call, t_fld, t_isE, t_isV, x_nil, x_cons, a_nil, a_ex, a_ec, r_e, r_rng1, r_rng2, s_expr, s_set, s_unp, s_seti, s_setf, s_ret, s_raise, s_ite, s_whl, s_for, s_tr, s_pass, ss_nil, ss_cons, getV, optV, List.getElem?_cons_zero, List.getElem?_cons_succ, List.set_cons_zero, List.set_cons_succ, startE, List.map_cons, List.map_nil, List.length_cons, List.length_nil, List.cons_append, List.nil_append, recv, sem1, sem2, optB, truthR, truth, seqL, isI, calm1, calm2, cfN_hot, cfN_m, cfN_call, cfN_glo, cfN_sub, cfN_sve, cfN_exn, Bool.false_and, Bool.true_and, Bool.and_true, Bool.and_false, Bool.or_true, Bool.true_or, Bool.or_false, Bool.false_or, Bool.not_true, Bool.not_false, if_true, if_false, Bool.false_eq_true, reduceIte, Option.map_some, Option.map_none, reduceCtorEq, ixD, atI_0, atI_1, atI_2, atI_3, atI_4, atI_5, atI_6, atI_7, atI_8, atI_9, atI_10, atI_11, atI_12, atI_nat', decide_true, decide_false, Bool.and_self, Option.isSome_some, Option.isSome_none, eqD_int, eqD_str, List.append_nil, stays_lst', stays_non', stays_tup', stays_str', stays_dic', wipeE, List.foldr_cons, List.foldr_nil, setV, mkL, mkD, items, lineN, Nat.reduceLeDiff,  List.reduceReplicate, Nat.reduceAdd, Nat.reduceSub, z1 _ rfl, z2 _ _ rfl, slice, show (1 : Int) = ((1 : Nat) : Int) from rfl, cut_to, cut_from, hwl, List.take_succ_cons, List.take_zero, List.drop_succ_cons, List.drop_zero, e1, ea, List.cons.injEq, Nat.reduceEqDiff, false_and]
      exact exit_rt onb tk
end
end Q
end FV

namespace FV
namespace Q
open PySem
section
variable {T : Tb} (K : Tb3 T)
include K

theorem okd_leaves {t : Tr} {ns : List Cs} (g : Good t ns) : ∀ x ∈ t.leaves, okd x := fun x hx => by
  rw [g.lv] at hx
  obtain ⟨s, hs, rfl⟩ := List.mem_map.1 hx
  exact okd_name (isNmC_iff.1 (g.nm s hs))

theorem no_tree_ok {t : Tr} {ns : List Cs} (g : Good t ns) {f s : Cs} (hf : isNameC f) (hs : isNameC s) {n mc j r : Nat} {h : Hb} (hn : 40 ≤ n) (B : Bag h j (r + 100)) :
    ∃ d h', callN T n false mc 22 [.v (.box j), .v (.lst (t.paths.map .str)), .v (.lst (ns.map .str)), .v (.str f), .v (.str s)] h = .ok d h' ∧ NoTr d ∧ Bag h' j r ∧ Upd j h h' := by
  obtain ⟨n, rfl⟩ : ∃ k, n = k + 1 := ⟨n - 1, by omega⟩
  have hl := g.len
  have hp := g.plen
  have hh := g.hgt
  have hpos := t.pos
  have hfc := fks_count t
  have e21 := forks_ok K.f21 t (n := n) (mc := h.length) (h := h) (by omega) g.small
  obtain ⟨v1, h1, e1, l1, B1, u1⟩ := draw K.draws (n := n) (mc := h.length) (r := r + 98) 8 (by omega) B (by decide) (by decide)
  rw [show ((8 : Nat) : Int) = 8 from rfl] at e1
  rw [callF K.f22 rfl rfl rfl]
  by_cases p0 : v1 = 0
  · subst p0
    obtain ⟨v2, h2, e2, l2, B2, u2⟩ := draw K.draws (n := n) (mc := h.length) (r := r + 96) 4 (by omega) B1 (by decide) (by decide)
    rw [show ((4 : Nat) : Int) = 4 from rfl] at e2
    have c1 : (13 : Int) + (v2 : Int) = ((13 + v2 : Nat) : Int) := by omega
    obtain ⟨t0, h3, e3, lt0, B3, u3⟩ := ways_ok K.f16 K.draws (n := n) (mc := h.length) (r := r + 60) (count := 13 + v2) (by omega) (by omega) (by omega) (B2.mono (by omega))
    obtain ⟨ms, h4, e4, lms, nms, _, B4, u4⟩ := names_ok K.f15 K.draws K.f14 (n := n) (mc := h.length) (r := r) (count := 13 + v2) (by omega) (by omega) (B3.mono (by omega))
    obtain ⟨t1, tp, tl⟩ := t0.refill (ms.map .str) (by simp; omega)
    have hb : belows 0 t1.leaves = true := by
      rw [tl, belows_all]
      intro x hx
      obtain ⟨s, _, rfl⟩ := List.mem_map.1 hx
      rfl
    have hh1 := t1.hgt_lt
    have e5 := made_ok K.f18 K.f17 t1 (n := n) (mc := h.length) (h := h4) (by rw [tp] at hh1; omega) (by unfold Tr.small; rw [tp]; omega) hb
    rw [tp, tl] at e5
    have u := ((u1.trans u2).trans u3).trans u4
    have hst : strLeaves t1 := fun x hx => by
      rw [tl] at hx
      obtain ⟨s, _, rfl⟩ := List.mem_map.1 hx
      exact ⟨s, rfl⟩
    refine ⟨t1.val, h4, ?_, noTr_of (c := 1) ?_ (by rw [tl]; simp; omega) (by rw [Tr.lv_val t1 hst, tl]; exact bad_len (by simp; omega)), B4, u⟩
    · simp -implicitDefEqProofs -dsimp only [C3.no_tree, Out.andThen_nx, Out.andThen_rt, Out.andThen_ex, Out.andThen_st, R.bind_ok, R.bind_ex, R.bind_st, R.nox_ok, fromR_ok, fromR_ex, fromR_st, bnd_ok, bnd_ex, bnd_st, frm_ok, frm_ex, frm_st, thn_nx, thn_rt, thn_ex, thn_st, trO_ex, trO_nx, trO_rt, e_var, e_non, e_bl, e_int, e_str, e_glo, e_op1, e_op2, e_op3, e_cmp, e_cmp3, e_and, e_or, e_not, e_ite, e_tup, e_lst, e_dct0, e_set0, e_call, e_new, e_fld, e_lc, e_dc, e_isE, e_isV, e_atE, t_cmp, t_cmp3, t_and, t_or, t_not, t_ite, t_var, t_bl, t_op1, t_op2, t_call, t_fld, t_isE, t_isV, x_nil, x_cons, a_nil, a_ex, a_ec, r_e, r_rng1, r_rng2, s_expr, s_set, s_unp, s_seti, s_setf, s_ret, s_raise, s_ite, s_whl, s_for, s_tr, s_pass, ss_nil, ss_cons, getV, optV, List.getElem?_cons_zero, List.getElem?_cons_succ, List.set_cons_zero, List.set_cons_succ, startE, List.map_cons, List.map_nil, List.length_cons, List.length_nil, List.cons_append, List.nil_append, recv, sem1, sem2, optB, truthR, truth, seqL, isI, calm1, calm2, cfN_hot, cfN_m, cfN_call, cfN_glo, cfN_sub, cfN_sve, cfN_exn, Bool.false_and, Bool.true_and, Bool.and_true, Bool.and_false, Bool.or_true, Bool.true_or, Bool.or_false, Bool.false_or, Bool.not_true, Bool.not_false, if_true, if_false, Bool.false_eq_true, reduceIte, Option.map_some, Option.map_none, reduceCtorEq, ixD, atI_0, atI_1, atI_2, atI_3, atI_4, atI_5, atI_6, atI_7, atI_8, atI_9, atI_10, atI_11, atI_12, atI_nat', decide_true, decide_false, Bool.and_self, Option.isSome_some, Option.isSome_none, eqD_int, eqD_str, List.append_nil, stays_lst', stays_non', stays_tup', stays_str', stays_dic', wipeE, List.foldr_cons, List.foldr_nil, setV, mkL, mkD, items, lineN, Nat.reduceLeDiff,  List.reduceReplicate, Nat.reduceAdd, Nat.reduceSub, e21, e1, show (((0 : Nat) : Int) = 0) = True by simp, e2, c1, e3, e4, e5]
      exact exit_rt (Tr.nb_val t1 hb) (List.take_of_length_le (by simp [u.1]))
    · intro x hx
      rw [tl] at hx
      obtain ⟨s, hs, rfl⟩ := List.mem_map.1 hx
      exact ⟨okd_name (nms s hs), by rw [nodes_leaf rfl]; decide⟩
  · have p0' : ((v1 : Int) = 0) = False := by simp; omega
    by_cases p1 : v1 = 1
    · subst p1
      obtain ⟨v2, h2, e2, l2, B2, u2⟩ := draw K.draws (n := n) (mc := h.length) (r := r + 96) 30 (by omega) B1 (by decide) (by decide)
      rw [show ((30 : Nat) : Int) = 30 from rfl] at e2
      have c1 : (30 : Int) + (v2 : Int) = ((30 + v2 : Nat) : Int) := by omega
      obtain ⟨n0, hn0⟩ : ∃ n0, ns[0]? = some n0 := ⟨_, List.getElem?_eq_getElem (by omega)⟩
      have hn0' := isNmC_iff.1 (g.nm n0 (List.mem_of_getElem? hn0))
      have r1 : inR ((30 + v2 : Nat) : Int) = true := by unfold inR; exact decide_eq_true (by omega)
      obtain ⟨σ', h3, e3, d, k, vk, hx, hk, rfl, rfl, d1, d2, d3, d4⟩ := forGo_nx (tg := [11]) (st := fun _ => true) (b := evSs (cfN T n false h.length) C3.no_tree_b1)
        (fun xs σ h' => ∃ (d : D) (k : Nat) (vk : Option Sl), xs = rngL k (30 + v2 - k) ∧ k ≤ 30 + v2 ∧ σ = [some (.v (.box j)), some (.v (.lst (t.paths.map .str))), some (.v (.lst (ns.map .str))), some (.v (.str f)), some (.v (.str s)), some (.v (.lst (t.fks.map .str))), some (.v (.int (1 : Nat))), none, none, none, some (.v d), vk, none, none] ∧ h' = h2 ∧ nb d ∧ okd d ∧ nodes d ≤ 2 * k + 1 ∧ lv d = D.str f :: List.replicate k (D.str n0))
        (fun _ _ _ _ => rfl) (by
          rintro x rs σ h' ⟨d, k, vk, hx, hk, rfl, rfl, d1, d2, d3, d4⟩
          have hk2 : k < 30 + v2 := by
            by_cases e : k = 30 + v2
            · subst e; rw [Nat.sub_self] at hx; cases hx
            · omega
          rw [show 30 + v2 - k = (30 + v2 - (k + 1)) + 1 by omega, rngL_cons] at hx
          cases hx
          refine ⟨_, rfl, ?_⟩
          simp -implicitDefEqProofs -dsimp only [C3.no_tree_b1, Out.andThen_nx, Out.andThen_rt, Out.andThen_ex, Out.andThen_st, R.bind_ok, R.bind_ex, R.bind_st, R.nox_ok, fromR_ok, fromR_ex, fromR_st, bnd_ok, bnd_ex, bnd_st, frm_ok, frm_ex, frm_st, thn_nx, thn_rt, thn_ex, thn_st, trO_ex, trO_nx, trO_rt, e_var, e_non, e_bl, e_int, e_str, e_glo, e_op1, e_op2, e_op3, e_cmp, e_cmp3, e_and, e_or, e_not, e_ite, e_tup, e_lst, e_dct0, e_set0, e_call, e_new, e_fld, e_lc, e_dc, e_isE, e_isV, e_atE, t_cmp, t_cmp3, t_and, t_or, t_not, t_ite, t_var, t_bl, t_op1, t_op2, t_call, t_fld, t_isE, t_isV, x_nil, x_cons, a_nil, a_ex, a_ec, r_e, r_rng1, r_rng2, s_expr, s_set, s_unp, s_seti, s_setf, s_ret, s_raise, s_ite, s_whl, s_for, s_tr, s_pass, ss_nil, ss_cons, getV, optV, List.getElem?_cons_zero, List.getElem?_cons_succ, List.set_cons_zero, List.set_cons_succ, startE, List.map_cons, List.map_nil, List.length_cons, List.length_nil, List.cons_append, List.nil_append, recv, sem1, sem2, optB, truthR, truth, seqL, isI, calm1, calm2, cfN_hot, cfN_m, cfN_call, cfN_glo, cfN_sub, cfN_sve, cfN_exn, Bool.false_and, Bool.true_and, Bool.and_true, Bool.and_false, Bool.or_true, Bool.true_or, Bool.or_false, Bool.false_or, Bool.not_true, Bool.not_false, if_true, if_false, Bool.false_eq_true, reduceIte, Option.map_some, Option.map_none, reduceCtorEq, ixD, atI_0, atI_1, atI_2, atI_3, atI_4, atI_5, atI_6, atI_7, atI_8, atI_9, atI_10, atI_11, atI_12, atI_nat', decide_true, decide_false, Bool.and_self, Option.isSome_some, Option.isSome_none, eqD_int, eqD_str, List.append_nil, stays_lst', stays_non', stays_tup', stays_str', stays_dic', wipeE, List.foldr_cons, List.foldr_nil, setV, mkL, mkD, items, lineN, Nat.reduceLeDiff,  List.reduceReplicate, Nat.reduceAdd, Nat.reduceSub, List.getElem?_map, hn0]
          refine ⟨_, _, rfl, .tup [d, .str n0], k + 1, some (.v (.int k)), rfl, by omega, rfl, rfl, ?_, ?_, ?_, ?_⟩
          · simp only [nb] at d1
            simp [nb, below, belows, d1]
          · intro x hx
            rw [lv_pair, List.mem_append] at hx
            rcases hx with hx | hx
            · exact d2 x hx
            · exact okd_name hn0' x hx
          · rw [nodes_pair, nodes_leaf (d := .str n0) rfl]; omega
          · rw [lv_pair, lv_leaf (d := .str n0) rfl, d4, List.replicate_succ']
            simp) (rngL 0 (30 + v2)) _ _ ⟨.str f, 0, none, rfl, by omega, rfl, rfl, rfl, okd_name hf, by rw [nodes_leaf rfl]; decide, by rw [lv_leaf rfl]; rfl⟩
      have hk3 : k = 30 + v2 := by
        by_cases e : k = 30 + v2
        · exact e
        · rw [show 30 + v2 - k = (30 + v2 - (k + 1)) + 1 by omega, rngL_cons] at hx; cases hx
      have u := u1.trans u2
      refine ⟨d, h3, ?_, ⟨d2, by omega, isTr_bad ?_⟩, B2.mono (by omega), u⟩
      · simp -implicitDefEqProofs -dsimp only [C3.no_tree, Out.andThen_nx, Out.andThen_rt, Out.andThen_ex, Out.andThen_st, R.bind_ok, R.bind_ex, R.bind_st, R.nox_ok, fromR_ok, fromR_ex, fromR_st, bnd_ok, bnd_ex, bnd_st, frm_ok, frm_ex, frm_st, thn_nx, thn_rt, thn_ex, thn_st, trO_ex, trO_nx, trO_rt, e_var, e_non, e_bl, e_int, e_str, e_glo, e_op1, e_op2, e_op3, e_cmp, e_cmp3, e_and, e_or, e_not, e_ite, e_tup, e_lst, e_dct0, e_set0, e_call, e_new, e_fld, e_lc, e_dc, e_isE, e_isV, e_atE, t_cmp, t_cmp3, t_and, t_or, t_not, t_ite, t_var, t_bl, t_op1, t_op2, t_call, t_fld, t_isE, t_isV, x_nil, x_cons, a_nil, a_ex, a_ec, r_e, r_rng1, r_rng2, s_expr, s_set, s_unp, s_seti, s_setf, s_ret, s_raise, s_ite, s_whl, s_for, s_tr, s_pass, ss_nil, ss_cons, getV, optV, List.getElem?_cons_zero, List.getElem?_cons_succ, List.set_cons_zero, List.set_cons_succ, startE, List.map_cons, List.map_nil, List.length_cons, List.length_nil, List.cons_append, List.nil_append, recv, sem1, sem2, optB, truthR, truth, seqL, isI, calm1, calm2, cfN_hot, cfN_m, cfN_call, cfN_glo, cfN_sub, cfN_sve, cfN_exn, Bool.false_and, Bool.true_and, Bool.and_true, Bool.and_false, Bool.or_true, Bool.true_or, Bool.or_false, Bool.false_or, Bool.not_true, Bool.not_false, if_true, if_false, Bool.false_eq_true, reduceIte, Option.map_some, Option.map_none, reduceCtorEq, ixD, atI_0, atI_1, atI_2, atI_3, atI_4, atI_5, atI_6, atI_7, atI_8, atI_9, atI_10, atI_11, atI_12, atI_nat', decide_true, decide_false, Bool.and_self, Option.isSome_some, Option.isSome_none, eqD_int, eqD_str, List.append_nil, stays_lst', stays_non', stays_tup', stays_str', stays_dic', wipeE, List.foldr_cons, List.foldr_nil, setV, mkL, mkD, items, lineN, Nat.reduceLeDiff,  List.reduceReplicate, Nat.reduceAdd, Nat.reduceSub, e21, e1, show (((1 : Nat) : Int) = 0) = False by simp, show (((1 : Nat) : Int) = 1) = True by simp, e2, c1, r1, Int.toNat_natCast, e3]
        exact exit_rt d1 (List.take_of_length_le (by simp [u.1]))
      · rw [d4, hk3, show 30 + v2 = (28 + v2) + 1 + 1 by omega, List.replicate_succ', List.replicate_succ']
        have := bad_sub (a := D.str f :: List.replicate (28 + v2) (D.str n0)) (b := []) (bad_twice (l := [D.str n0]) (by simp))
        simpa using this
    · have p1' : ((v1 : Int) = 1) = False := by simp; omega
      by_cases p5 : v1 < 5 ∧ t.fks ≠ []
      · have p5' : ((v1 : Int) < 5) = True := by simp; omega
        have ne : (t.fks.map D.str).isEmpty = false := by
          cases e : t.fks with
          | nil => exact (p5.2 e).elim
          | cons _ _ => rfl
        have hfp : 0 < t.fks.length := List.length_pos_iff.2 p5.2
        obtain ⟨v2, h2, e2, l2, B2, u2⟩ := draw K.draws (n := n) (mc := h.length) (r := r + 96) (t.fks.map D.str).length (by omega) B1 (by simpa using hfp) (by simp; omega)
        simp only [List.length_map] at l2
        obtain ⟨w, hw, hwm⟩ : ∃ w, t.fks[v2]? = some w ∧ w ∈ t.fks := ⟨_, List.getElem?_eq_getElem l2, List.getElem_mem l2⟩
        obtain ⟨v3, h3, e3, l3, B3, u3⟩ := draw K.draws (n := n) (mc := h.length) (r := r + 94) 4 (by omega) B2 (by decide) (by decide)
        rw [show ((4 : Nat) : Int) = 4 from rfl] at e3
        have r1 : inR ((ns.map D.str).length : Int) = true := by unfold inR; exact decide_eq_true (by simp; omega)
        have z1 : ∀ σ : Env, σ = [some (.v (.box j)), some (.v (.lst (t.paths.map .str))), some (.v (.lst (ns.map .str))), some (.v (.str f)), some (.v (.str s)), some (.v (.lst (t.fks.map .str))), some (.v (.int v1)), none, none, none, none, none, some (.v (.str w)), none] → lcGo [11] σ (fun _ => true) (evT (cfN T n false h.length) (.bl true)) (evE (cfN T n false h.length) C3.no_tree_b2) (rngL 0 (ns.map D.str).length) [] h2 = .ok (t.rows.map rowD) h2 := by
          rintro σ rfl
          rw [lc_rng (fun _ => true) (fun k => match t.paths[k]?, ns[k]? with | some x, some y => rowD (x, .str y) | _, _ => .non) (by unfold lineN; simp; omega) ?H]
          · refine congrArg (fun l => R.ok l h2) ?_
            rw [List.filter_eq_self.2 (by simp)]
            unfold Tr.rows
            rw [g.lv]
            refine List.ext_getElem (by simp [hp]) ?_
            intro k h1 h2
            simp at h1 h2
            simp [List.getElem?_eq_getElem (show k < t.paths.length by omega), List.getElem?_eq_getElem h1]
          · intro k hk
            simp only [List.length_map] at hk
            have hk2 : k < t.paths.length := by omega
            refine ⟨t_bl, fun _ => ?_⟩
            simp -implicitDefEqProofs -dsimp only [C3.no_tree_b2, Out.andThen_nx, Out.andThen_rt, Out.andThen_ex, Out.andThen_st, R.bind_ok, R.bind_ex, R.bind_st, R.nox_ok, fromR_ok, fromR_ex, fromR_st, bnd_ok, bnd_ex, bnd_st, frm_ok, frm_ex, frm_st, thn_nx, thn_rt, thn_ex, thn_st, trO_ex, trO_nx, trO_rt, e_var, e_non, e_bl, e_int, e_str, e_glo, e_op1, e_op2, e_op3, e_cmp, e_cmp3, e_and, e_or, e_not, e_ite, e_tup, e_lst, e_dct0, e_set0, e_call, e_new, e_fld, e_lc, e_dc, e_isE, e_isV, e_atE, t_cmp, t_cmp3, t_and, t_or, t_not, t_ite, t_var, t_bl, t_op1, t_op2, t_call, t_fld, t_isE, t_isV, x_nil, x_cons, a_nil, a_ex, a_ec, r_e, r_rng1, r_rng2, s_expr, s_set, s_unp, s_seti, s_setf, s_ret, s_raise, s_ite, s_whl, s_for, s_tr, s_pass, ss_nil, ss_cons, getV, optV, List.getElem?_cons_zero, List.getElem?_cons_succ, List.set_cons_zero, List.set_cons_succ, startE, List.map_cons, List.map_nil, List.length_cons, List.length_nil, List.cons_append, List.nil_append, recv, sem1, sem2, optB, truthR, truth, seqL, isI, calm1, calm2, cfN_hot, cfN_m, cfN_call, cfN_glo, cfN_sub, cfN_sve, cfN_exn, Bool.false_and, Bool.true_and, Bool.and_true, Bool.and_false, Bool.or_true, Bool.true_or, Bool.or_false, Bool.false_or, Bool.not_true, Bool.not_false, if_true, if_false, Bool.false_eq_true, reduceIte, Option.map_some, Option.map_none, reduceCtorEq, ixD, atI_0, atI_1, atI_2, atI_3, atI_4, atI_5, atI_6, atI_7, atI_8, atI_9, atI_10, atI_11, atI_12, atI_nat', decide_true, decide_false, Bool.and_self, Option.isSome_some, Option.isSome_none, eqD_int, eqD_str, List.append_nil, stays_lst', stays_non', stays_tup', stays_str', stays_dic', wipeE, List.foldr_cons, List.foldr_nil, setV, mkL, mkD, items, lineN, Nat.reduceLeDiff,  List.reduceReplicate, Nat.reduceAdd, Nat.reduceSub, List.getElem?_map, List.getElem?_eq_getElem hk, List.getElem?_eq_getElem hk2]
            rfl
        have e4 := odd_fork_ok K t w v3 (.str s) (n := n) (mc := h.length) (h := h3) hwm l3 rfl (by omega) g.small g.bel
        obtain ⟨f1, f2, f3⟩ := oddV_facts t w v3 s g.str (okd_leaves K g) hs hwm l3
        have hnn := t.nodes_eq
        have u := (u1.trans u2).trans u3
        refine ⟨_, h3, ?_, ⟨f1, by omega, isTr_bad f3⟩, B3.mono (by omega), u⟩
        simp -implicitDefEqProofs -dsimp only [C3.no_tree, Out.andThen_nx, Out.andThen_rt, Out.andThen_ex, Out.andThen_st, R.bind_ok, R.bind_ex, R.bind_st, R.nox_ok, fromR_ok, fromR_ex, fromR_st, bnd_ok, bnd_ex, bnd_st, frm_ok, frm_ex, frm_st, thn_nx, thn_rt, thn_ex, thn_st, trO_ex, trO_nx, trO_rt, e_var, e_non, e_bl, e_int, e_str, e_glo, e_op1, e_op2, e_op3, e_cmp, e_cmp3, e_and, e_or, e_not, e_ite, e_tup, e_lst, e_dct0, e_set0, e_call, e_new, e_fld, e_lc, e_dc, e_isE, e_isV, e_atE, t_cmp, t_cmp3, t_and, t_or, t_not, t_ite, t_var, t_bl, t_op1, t_op2, t_call, t_fld, t_isE, t_isV, x_nil, x_cons, a_nil, a_ex, a_ec, r_e, r_rng1, r_rng2, s_expr, s_set, s_unp, s_seti, s_setf, s_ret, s_raise, s_ite, s_whl, s_for, s_tr, s_pass, ss_nil, ss_cons, getV, optV, List.getElem?_cons_zero, List.getElem?_cons_succ, List.set_cons_zero, List.set_cons_succ, startE, List.map_cons, List.map_nil, List.length_cons, List.length_nil, List.cons_append, List.nil_append, recv, sem1, sem2, optB, truthR, truth, seqL, isI, calm1, calm2, cfN_hot, cfN_m, cfN_call, cfN_glo, cfN_sub, cfN_sve, cfN_exn, Bool.false_and, Bool.true_and, Bool.and_true, Bool.and_false, Bool.or_true, Bool.true_or, Bool.or_false, Bool.false_or, Bool.not_true, Bool.not_false, if_true, if_false, Bool.false_eq_true, reduceIte, Option.map_some, Option.map_none, reduceCtorEq, ixD, atI_0, atI_1, atI_2, atI_3, atI_4, atI_5, atI_6, atI_7, atI_8, atI_9, atI_10, atI_11, atI_12, atI_nat', decide_true, decide_false, Bool.and_self, Option.isSome_some, Option.isSome_none, eqD_int, eqD_str, List.append_nil, stays_lst', stays_non', stays_tup', stays_str', stays_dic', wipeE, List.foldr_cons, List.foldr_nil, setV, mkL, mkD, items, lineN, Nat.reduceLeDiff,  List.reduceReplicate, Nat.reduceAdd, Nat.reduceSub, e21, e1, p0', p1', cmpI, p5', ne, e2, List.getElem?_map, hw, r1, Int.toNat_natCast, z1 _ rfl, e3, e4]
        exact exit_rt (oddV_nb t w v3 (.str s) g.bel rfl) (List.take_of_length_le (by simp [u.1]))
      · obtain ⟨v2, h2, e2, l2, B2, u2⟩ := draw K.draws (n := n) (mc := h.length) (r := r + 96) (ns.map D.str).length (by omega) B1 (by simp; omega) (by simp; omega)
        simp only [List.length_map] at l2
        obtain ⟨x, hx, hxm⟩ : ∃ x, ns[v2]? = some x ∧ x ∈ ns := ⟨_, List.getElem?_eq_getElem l2, List.getElem_mem l2⟩
        obtain ⟨d, h3, e3, od, B3, u3⟩ := odd_leaf_ok K (isNmC_iff.1 (g.nm x hxm)) hf hs (n := n) (mc := h.length) (r := r + 86) (by omega) B2
        have hlen : ((ns.map D.str).take v2 ++ [d] ++ (ns.map D.str).drop (v2 + 1)).length = t.paths.length := by simp; omega
        obtain ⟨t1, tp, tl⟩ := t.refill _ hlen
        have hmem : ∀ y ∈ t1.leaves, okd y ∧ Q.nodes y ≤ 3 ∧ nb y := by
          intro y hy
          rw [tl] at hy
          simp only [List.mem_append, List.mem_singleton] at hy
          have nm : ∀ y, y ∈ ns.map D.str → okd y ∧ Q.nodes y ≤ 3 ∧ nb y := by
            intro y hy
            obtain ⟨s, hs, rfl⟩ := List.mem_map.1 hy
            exact ⟨okd_name (isNmC_iff.1 (g.nm s hs)), by rw [nodes_leaf rfl]; decide, rfl⟩
          rcases hy with (hy | rfl) | hy
          · exact nm y (List.mem_of_mem_take hy)
          · exact ⟨od.ok, od.sz, od.nb⟩
          · exact nm y (List.mem_of_mem_drop hy)
        have hb : belows 0 t1.leaves = true := belows_all.2 fun y hy => (hmem y hy).2.2
        have hh1 := t1.hgt_lt
        have e4 := made_ok K.f18 K.f17 t1 (n := n) (mc := h.length) (h := h3) (by rw [tp] at hh1; omega) (by unfold Tr.small; rw [tp]; omega) hb
        rw [tp, tl] at e4
        have c1 : (v2 : Int) + 1 = ((v2 + 1 : Nat) : Int) := by omega
        have w1 : ((ns.map D.str).take v2).length + 1 ≤ 16777216 := by simp; omega
        have w2 : ((ns.map D.str).take v2 ++ [d]).length + ((ns.map D.str).drop (v2 + 1)).length ≤ 16777216 := by simp; omega
        have u := (u1.trans u2).trans u3
        refine ⟨t1.val, h3, ?_, noTr_of (c := 3) (fun y hy => ⟨(hmem y hy).1, (hmem y hy).2.1⟩) (by rw [tl, hlen]; omega) ?_, B3.mono (by omega), u⟩
        · have fin := exit_rt (Tr.nb_val t1 hb) (show h3.take h.length = h3 from List.take_of_length_le (by simp [u.1]))
          by_cases q5 : v1 < 5
          · have e0 : t.fks = [] := by
              cases e : t.fks with
              | nil => rfl
              | cons a b => exact (p5 ⟨q5, by rw [e]; simp⟩).elim
            have p5' : ((v1 : Int) < 5) = True := by simp; omega
            simp -implicitDefEqProofs -dsimp only [C3.no_tree, Out.andThen_nx, Out.andThen_rt, Out.andThen_ex, Out.andThen_st, R.bind_ok, R.bind_ex, R.bind_st, R.nox_ok, fromR_ok, fromR_ex, fromR_st, bnd_ok, bnd_ex, bnd_st, frm_ok, frm_ex, frm_st, thn_nx, thn_rt, thn_ex, thn_st, trO_ex, trO_nx, trO_rt, e_var, e_non, e_bl, e_int, e_str, e_glo, e_op1, e_op2, e_op3, e_cmp, e_cmp3, e_and, e_or, e_not, e_ite, e_tup, e_lst, e_dct0, e_set0, e_call, e_new, e_fld, e_lc, e_dc, e_isE, e_isV, e_atE, t_cmp, t_cmp3, t_and, t_or, t_not, t_ite, t_var, t_bl, t_op1, t_op2, t_call, t_fld, t_isE, t_isV, x_nil, x_cons, a_nil, a_ex, a_ec, r_e, r_rng1, r_rng2, s_expr, s_set, s_unp, s_seti, s_setf, s_ret, s_raise, s_ite, s_whl, s_for, s_tr, s_pass, ss_nil, ss_cons, getV, optV, List.getElem?_cons_zero, List.getElem?_cons_succ, List.set_cons_zero, List.set_cons_succ, startE, List.map_cons, List.map_nil, List.length_cons, List.length_nil, List.cons_append, List.nil_append, recv, sem1, sem2, optB, truthR, truth, seqL, isI, calm1, calm2, cfN_hot, cfN_m, cfN_call, cfN_glo, cfN_sub, cfN_sve, cfN_exn, Bool.false_and, Bool.true_and, Bool.and_true, Bool.and_false, Bool.or_true, Bool.true_or, Bool.or_false, Bool.false_or, Bool.not_true, Bool.not_false, if_true, if_false, Bool.false_eq_true, reduceIte, Option.map_some, Option.map_none, reduceCtorEq, ixD, atI_0, atI_1, atI_2, atI_3, atI_4, atI_5, atI_6, atI_7, atI_8, atI_9, atI_10, atI_11, atI_12, atI_nat', decide_true, decide_false, Bool.and_self, Option.isSome_some, Option.isSome_none, eqD_int, eqD_str, List.append_nil, stays_lst', stays_non', stays_tup', stays_str', stays_dic', wipeE, List.foldr_cons, List.foldr_nil, setV, mkL, mkD, items, lineN, Nat.reduceLeDiff,  List.reduceReplicate, Nat.reduceAdd, Nat.reduceSub, e21, e1, p0', p1', cmpI, p5', e0, List.isEmpty_nil, e2, List.getElem?_map, hx, e3, slice, c1, cut_to, cut_from, w1, w2, e4]
            exact fin
          · have p5' : ((v1 : Int) < 5) = False := by simp; omega
            simp -implicitDefEqProofs -dsimp only [C3.no_tree, Out.andThen_nx, Out.andThen_rt, Out.andThen_ex, Out.andThen_st, R.bind_ok, R.bind_ex, R.bind_st, R.nox_ok, fromR_ok, fromR_ex, fromR_st, bnd_ok, bnd_ex, bnd_st, frm_ok, frm_ex, frm_st, thn_nx, thn_rt, thn_ex, thn_st, trO_ex, trO_nx, trO_rt, e_var, e_non, e_bl, e_int, e_str, e_glo, e_op1, e_op2, e_op3, e_cmp, e_cmp3, e_and, e_or, e_not, e_ite, e_tup, e_lst, e_dct0, e_set0, e_call, e_new, e_fld, e_lc, e_dc, e_isE, e_isV, e_atE, t_cmp, t_cmp3, t_and, t_or, t_not, t_ite, t_var, t_bl, t_op1, t_op2, t_call, t_fld, t_isE, t_isV, x_nil, x_cons, a_nil, a_ex, a_ec, r_e, r_rng1, r_rng2, s_expr, s_set, s_unp, s_seti, s_setf, s_ret, s_raise, s_ite, s_whl, s_for, s_tr, s_pass, ss_nil, ss_cons, getV, optV, List.getElem?_cons_zero, List.getElem?_cons_succ, List.set_cons_zero, List.set_cons_succ, startE, List.map_cons, List.map_nil, List.length_cons, List.length_nil, List.cons_append, List.nil_append, recv, sem1, sem2, optB, truthR, truth, seqL, isI, calm1, calm2, cfN_hot, cfN_m, cfN_call, cfN_glo, cfN_sub, cfN_sve, cfN_exn, Bool.false_and, Bool.true_and, Bool.and_true, Bool.and_false, Bool.or_true, Bool.true_or, Bool.or_false, Bool.false_or, Bool.not_true, Bool.not_false, if_true, if_false, Bool.false_eq_true, reduceIte, Option.map_some, Option.map_none, reduceCtorEq, ixD, atI_0, atI_1, atI_2, atI_3, atI_4, atI_5, atI_6, atI_7, atI_8, atI_9, atI_10, atI_11, atI_12, atI_nat', decide_true, decide_false, Bool.and_self, Option.isSome_some, Option.isSome_none, eqD_int, eqD_str, List.append_nil, stays_lst', stays_non', stays_tup', stays_str', stays_dic', wipeE, List.foldr_cons, List.foldr_nil, setV, mkL, mkD, items, lineN, Nat.reduceLeDiff,  List.reduceReplicate, Nat.reduceAdd, Nat.reduceSub, e21, e1, p0', p1', cmpI, p5', e2, List.getElem?_map, hx, e3, slice, c1, cut_to, cut_from, w1, w2, e4]
            exact fin
        · rw [Tr.lv_flat, tl, List.flatMap_append, List.flatMap_append, List.flatMap_singleton]
          exact bad_sub od.bad
end
end Q
end FV

namespace FV
namespace Q
open PySem
section
variable {T : Tb} (K : Tb3 T)
include K

theorem bag_ok (zs : List Int) {k : Nat} (hk : k < 5) (hl : zs.length ≤ 1000) {n mc : Nat} {h : Hb} (hn : 1 ≤ n) : ∃ h', callN T n false mc 10 [.v (.lst (zs.map .int)), .v (.int k)] h = .ok (.box h.length) h' ∧ Bag h' h.length 1000 := by
  obtain ⟨n, rfl⟩ : ∃ k, n = k + 1 := ⟨n - 1, by omega⟩
  have p1 : arith (fun i j => 0 ≤ j ∧ j ≤ 1000000 ∧ i.natAbs < 2 ^ 64) (fun i j => i ^ j.toNat) (.int 10) (.int 18) h = .ok (.int 1000000000000000000) h := by
    rw [arith_pos (by decide)]; rfl
  have m1 := mul_ok (i := 7919) (j := (k : Int)) (h := h) 31 31 (by decide) (by omega) (by decide) (by decide) (by decide)
  have tk : (zs.map D.int).take 1 = (zs.take 1).map .int := by rw [List.map_take]
  have fin : ∀ cell : Int, ∃ h', exitF true mc (evSs (cfN T n false mc) (.cons (.set 3 (.int 0)) (.cons (.ite (.cmp .ge (.var 2) (.op2 .pow (.int 10) (.int 18))) (.cons (.set 3 (.var 2)) (.nil)) (.nil)) (.cons (.ret (.lst true (.cons (.var 3) (.cons (.op2 .mod (.op1 .intI (.var 2)) (.int 2147483629)) (.cons (.var 1) (.nil)))))) (.nil)))) [some (.v (.lst (zs.map .int))), some (.v (.int k)), some (.v (.int cell)), none] h) = .ok (.box h.length) h' ∧ Bag h' h.length 1000 := by
    intro cell
    have q1 : 0 ≤ cell % 2147483629 := Int.emod_nonneg _ (by decide)
    have q2 : cell % 2147483629 < 2147483629 := Int.emod_lt_of_pos _ (by decide)
    have B : ∀ rest : Int, Bag (h ++ [some (Ob.lst [.int rest, .int (cell % 2147483629), .int k])]) h.length 1000 := fun rest => by
      refine ⟨rest, cell % 2147483629, k, bx_app, q1, ?_, by omega, by omega⟩
      exact Int.lt_trans q2 (by decide)
    by_cases hc : (1000000000000000000 : Int) ≤ cell
    · refine ⟨_, ?_, B cell⟩
      simp -implicitDefEqProofs -dsimp only [Out.andThen_nx, Out.andThen_rt, Out.andThen_ex, Out.andThen_st, R.bind_ok, R.bind_ex, R.bind_st, R.nox_ok, fromR_ok, fromR_ex, fromR_st, bnd_ok, bnd_ex, bnd_st, frm_ok, frm_ex, frm_st, thn_nx, thn_rt, thn_ex, thn_st, trO_ex, trO_nx, trO_rt, e_var, e_non, e_bl, e_int, e_str, e_glo, e_op1, e_op2, e_op3, e_cmp, e_cmp3, e_and, e_or, e_not, e_ite, e_tup, e_lst, e_dct0, e_set0, e_call, e_new, e_fld, e_lc, e_dc, e_isE, e_isV, e_atE, t_cmp, t_cmp3, t_and, t_or, t_not, t_ite, t_var, t_bl, t_op1, t_op2, t_call, t_fld, t_isE, t_isV, x_nil, x_cons, a_nil, a_ex, a_ec, r_e, r_rng1, r_rng2, s_expr, s_set, s_unp, s_seti, s_setf, s_ret, s_raise, s_ite, s_whl, s_for, s_tr, s_pass, ss_nil, ss_cons, getV, optV, List.getElem?_cons_zero, List.getElem?_cons_succ, List.set_cons_zero, List.set_cons_succ, startE, List.map_cons, List.map_nil, List.length_cons, List.length_nil, List.cons_append, List.nil_append, recv, sem1, sem2, optB, truthR, truth, seqL, isI, calm1, calm2, cfN_hot, cfN_m, cfN_call, cfN_glo, cfN_sub, cfN_sve, cfN_exn, Bool.false_and, Bool.true_and, Bool.and_true, Bool.and_false, Bool.or_true, Bool.true_or, Bool.or_false, Bool.false_or, Bool.not_true, Bool.not_false, if_true, if_false, Bool.false_eq_true, reduceIte, Option.map_some, Option.map_none, reduceCtorEq, ixD, atI_0, atI_1, atI_2, atI_3, atI_4, atI_5, atI_6, atI_7, atI_8, atI_9, atI_10, atI_11, atI_12, atI_nat', decide_true, decide_false, Bool.and_self, Option.isSome_some, Option.isSome_none, eqD_int, eqD_str, List.append_nil, stays_lst', stays_non', stays_tup', stays_str', stays_dic', wipeE, List.foldr_cons, List.foldr_nil, setV, mkL, mkD, items, lineN, Nat.reduceLeDiff,  List.reduceReplicate, Nat.reduceAdd, Nat.reduceSub, p1, cmpI, hc, mod_ok (show (0 : Int) < 2147483629 by decide), exitF]
    · refine ⟨_, ?_, B 0⟩
      simp -implicitDefEqProofs -dsimp only [Out.andThen_nx, Out.andThen_rt, Out.andThen_ex, Out.andThen_st, R.bind_ok, R.bind_ex, R.bind_st, R.nox_ok, fromR_ok, fromR_ex, fromR_st, bnd_ok, bnd_ex, bnd_st, frm_ok, frm_ex, frm_st, thn_nx, thn_rt, thn_ex, thn_st, trO_ex, trO_nx, trO_rt, e_var, e_non, e_bl, e_int, e_str, e_glo, e_op1, e_op2, e_op3, e_cmp, e_cmp3, e_and, e_or, e_not, e_ite, e_tup, e_lst, e_dct0, e_set0, e_call, e_new, e_fld, e_lc, e_dc, e_isE, e_isV, e_atE, t_cmp, t_cmp3, t_and, t_or, t_not, t_ite, t_var, t_bl, t_op1, t_op2, t_call, t_fld, t_isE, t_isV, x_nil, x_cons, a_nil, a_ex, a_ec, r_e, r_rng1, r_rng2, s_expr, s_set, s_unp, s_seti, s_setf, s_ret, s_raise, s_ite, s_whl, s_for, s_tr, s_pass, ss_nil, ss_cons, getV, optV, List.getElem?_cons_zero, List.getElem?_cons_succ, List.set_cons_zero, List.set_cons_succ, startE, List.map_cons, List.map_nil, List.length_cons, List.length_nil, List.cons_append, List.nil_append, recv, sem1, sem2, optB, truthR, truth, seqL, isI, calm1, calm2, cfN_hot, cfN_m, cfN_call, cfN_glo, cfN_sub, cfN_sve, cfN_exn, Bool.false_and, Bool.true_and, Bool.and_true, Bool.and_false, Bool.or_true, Bool.true_or, Bool.or_false, Bool.false_or, Bool.not_true, Bool.not_false, if_true, if_false, Bool.false_eq_true, reduceIte, Option.map_some, Option.map_none, reduceCtorEq, ixD, atI_0, atI_1, atI_2, atI_3, atI_4, atI_5, atI_6, atI_7, atI_8, atI_9, atI_10, atI_11, atI_12, atI_nat', decide_true, decide_false, Bool.and_self, Option.isSome_some, Option.isSome_none, eqD_int, eqD_str, List.append_nil, stays_lst', stays_non', stays_tup', stays_str', stays_dic', wipeE, List.foldr_cons, List.foldr_nil, setV, mkL, mkD, items, lineN, Nat.reduceLeDiff,  List.reduceReplicate, Nat.reduceAdd, Nat.reduceSub, p1, cmpI, hc, mod_ok (show (0 : Int) < 2147483629 by decide), exitF]
  rw [callK K.f10 rfl rfl rfl]
  by_cases hz : k < zs.length
  · have hz' : ((k : Int) < ((zs.map D.int).length : Int)) = True := by simp; omega
    obtain ⟨h', e, B⟩ := fin zs[k]
    refine ⟨h', ?_, B⟩
    rw [← e]
    simp -implicitDefEqProofs -dsimp only [C3.bag, Out.andThen_nx, Out.andThen_rt, Out.andThen_ex, Out.andThen_st, R.bind_ok, R.bind_ex, R.bind_st, R.nox_ok, fromR_ok, fromR_ex, fromR_st, bnd_ok, bnd_ex, bnd_st, frm_ok, frm_ex, frm_st, thn_nx, thn_rt, thn_ex, thn_st, trO_ex, trO_nx, trO_rt, e_var, e_non, e_bl, e_int, e_str, e_glo, e_op1, e_op2, e_op3, e_cmp, e_cmp3, e_and, e_or, e_not, e_ite, e_tup, e_lst, e_dct0, e_set0, e_call, e_new, e_fld, e_lc, e_dc, e_isE, e_isV, e_atE, t_cmp, t_cmp3, t_and, t_or, t_not, t_ite, t_var, t_bl, t_op1, t_op2, t_call, t_fld, t_isE, t_isV, x_nil, x_cons, a_nil, a_ex, a_ec, r_e, r_rng1, r_rng2, s_expr, s_set, s_unp, s_seti, s_setf, s_ret, s_raise, s_ite, s_whl, s_for, s_tr, s_pass, ss_nil, ss_cons, getV, optV, List.getElem?_cons_zero, List.getElem?_cons_succ, List.set_cons_zero, List.set_cons_succ, startE, List.map_cons, List.map_nil, List.length_cons, List.length_nil, List.cons_append, List.nil_append, recv, sem1, sem2, optB, truthR, truth, seqL, isI, calm1, calm2, cfN_hot, cfN_m, cfN_call, cfN_glo, cfN_sub, cfN_sve, cfN_exn, Bool.false_and, Bool.true_and, Bool.and_true, Bool.and_false, Bool.or_true, Bool.true_or, Bool.or_false, Bool.false_or, Bool.not_true, Bool.not_false, if_true, if_false, Bool.false_eq_true, reduceIte, Option.map_some, Option.map_none, reduceCtorEq, ixD, atI_0, atI_1, atI_2, atI_3, atI_4, atI_5, atI_6, atI_7, atI_8, atI_9, atI_10, atI_11, atI_12, atI_nat', decide_true, decide_false, Bool.and_self, Option.isSome_some, Option.isSome_none, eqD_int, eqD_str, List.append_nil, stays_lst', stays_non', stays_tup', stays_str', stays_dic', wipeE, List.foldr_cons, List.foldr_nil, setV, mkL, mkD, items, lineN, Nat.reduceLeDiff,  List.reduceReplicate, Nat.reduceAdd, Nat.reduceSub, slice, show (1 : Int) = ((1 : Nat) : Int) from rfl, cut_to, tk, Option.bind_some, intsD_map, mod_ok (show (0 : Int) < 1000003 by decide), m1, cmpI, hz', List.getElem?_map, List.getElem?_eq_getElem hz]
  · have hz' : ((k : Int) < ((zs.map D.int).length : Int)) = False := by simp; omega
    obtain ⟨h', e, B⟩ := fin ((zs.take 1).sum % 1000003 + 7919 * k)
    refine ⟨h', ?_, B⟩
    rw [← e]
    simp -implicitDefEqProofs -dsimp only [C3.bag, Out.andThen_nx, Out.andThen_rt, Out.andThen_ex, Out.andThen_st, R.bind_ok, R.bind_ex, R.bind_st, R.nox_ok, fromR_ok, fromR_ex, fromR_st, bnd_ok, bnd_ex, bnd_st, frm_ok, frm_ex, frm_st, thn_nx, thn_rt, thn_ex, thn_st, trO_ex, trO_nx, trO_rt, e_var, e_non, e_bl, e_int, e_str, e_glo, e_op1, e_op2, e_op3, e_cmp, e_cmp3, e_and, e_or, e_not, e_ite, e_tup, e_lst, e_dct0, e_set0, e_call, e_new, e_fld, e_lc, e_dc, e_isE, e_isV, e_atE, t_cmp, t_cmp3, t_and, t_or, t_not, t_ite, t_var, t_bl, t_op1, t_op2, t_call, t_fld, t_isE, t_isV, x_nil, x_cons, a_nil, a_ex, a_ec, r_e, r_rng1, r_rng2, s_expr, s_set, s_unp, s_seti, s_setf, s_ret, s_raise, s_ite, s_whl, s_for, s_tr, s_pass, ss_nil, ss_cons, getV, optV, List.getElem?_cons_zero, List.getElem?_cons_succ, List.set_cons_zero, List.set_cons_succ, startE, List.map_cons, List.map_nil, List.length_cons, List.length_nil, List.cons_append, List.nil_append, recv, sem1, sem2, optB, truthR, truth, seqL, isI, calm1, calm2, cfN_hot, cfN_m, cfN_call, cfN_glo, cfN_sub, cfN_sve, cfN_exn, Bool.false_and, Bool.true_and, Bool.and_true, Bool.and_false, Bool.or_true, Bool.true_or, Bool.or_false, Bool.false_or, Bool.not_true, Bool.not_false, if_true, if_false, Bool.false_eq_true, reduceIte, Option.map_some, Option.map_none, reduceCtorEq, ixD, atI_0, atI_1, atI_2, atI_3, atI_4, atI_5, atI_6, atI_7, atI_8, atI_9, atI_10, atI_11, atI_12, atI_nat', decide_true, decide_false, Bool.and_self, Option.isSome_some, Option.isSome_none, eqD_int, eqD_str, List.append_nil, stays_lst', stays_non', stays_tup', stays_str', stays_dic', wipeE, List.foldr_cons, List.foldr_nil, setV, mkL, mkD, items, lineN, Nat.reduceLeDiff,  List.reduceReplicate, Nat.reduceAdd, Nat.reduceSub, slice, show (1 : Int) = ((1 : Nat) : Int) from rfl, cut_to, tk, Option.bind_some, intsD_map, mod_ok (show (0 : Int) < 1000003 by decide), m1, cmpI, hz']

theorem round_ok {n mc j : Nat} {h : Hb} (hn : 50 ≤ n) (B : Bag h j 1000) : ∃ h', callN T n false mc 29 [.v (.box j)] h = .ok (.bl true) h' := by
  obtain ⟨n, rfl⟩ : ∃ k, n = k + 1 := ⟨n - 1, by omega⟩
  obtain ⟨cnt, h1, e1, c1, c12, B1, u1⟩ := count_ok K.f13 K.draws (n := n) (mc := h.length) (r := 900) (by omega) (B.mono (by omega))
  have cc : (cnt : Int) + 2 = ((cnt + 2 : Nat) : Int) := by omega
  obtain ⟨ns, h2, e2, ln, nn, nd, B2, u2⟩ := names_ok K.f15 K.draws K.f14 (n := n) (mc := h.length) (r := 800) (count := cnt + 2) (by omega) (by omega) (B1.mono (by omega))
  obtain ⟨t0, h3, e3, lt, B3, u3⟩ := ways_ok K.f16 K.draws (n := n) (mc := h.length) (r := 700) (count := cnt) (by omega) c1 (by omega) (B2.mono (by omega))
  have nd' := nd (by omega)
  obtain ⟨f, hf⟩ : ∃ f, ns[cnt]? = some f := ⟨_, List.getElem?_eq_getElem (by omega)⟩
  obtain ⟨s, hs⟩ : ∃ s, ns[cnt + 1]? = some s := ⟨_, List.getElem?_eq_getElem (by omega)⟩
  have cf : isNameC f := nn f (List.mem_of_getElem? hf)
  have cs : isNameC s := nn s (List.mem_of_getElem? hs)
  have c2 : (cnt : Int) + 1 = ((cnt + 1 : Nat) : Int) := by omega
  obtain ⟨t, tp, tl⟩ := t0.refill ((ns.take cnt).map .str) (by simp; omega)
  have g : Good t (ns.take cnt) := ⟨tl, fun x hx => isNmC_iff.2 (nn x (List.mem_of_mem_take hx)), nd'.sublist (List.take_sublist _ _), by simp; omega⟩
  have fm : f ∉ ns.take cnt := fun hm => by
    obtain ⟨k, hk⟩ := List.getElem?_of_mem hm
    rw [List.getElem?_take] at hk
    split at hk
    · rename_i hkc
      have a1 := List.getElem?_eq_some_iff.1 hk
      have a2 := List.getElem?_eq_some_iff.1 hf
      obtain ⟨b1, e1⟩ := a1
      obtain ⟨b2, e2⟩ := a2
      have := (List.nodup_iff_pairwise_ne.1 nd')
      have := List.pairwise_iff_getElem.1 this k cnt b1 b2 hkc
      exact this (e1.trans e2.symm)
    · cases hk
  have hh := g.hgt
  have e4 := made_ok K.f18 K.f17 t (n := n) (mc := h.length) (h := h3) (by omega) g.small g.bel
  rw [tp, tl] at e4
  have e5 := tells_ok K g (n := n) (mc := h.length) (h := h3) (by omega)
  have e6 := sides_ok K g (n := n) (mc := h.length) (h := h3) (by omega)
  obtain ⟨h4, e7, B4, u4⟩ := refused_ok K g fm cf (n := n) (mc := h.length) (r := 600) (by omega) (B3.mono (by omega))
  obtain ⟨d, h5, e8, N, B5, u5⟩ := no_tree_ok K g cf cs (n := n) (mc := h.length) (r := 500) (by omega) B4
  rw [tp] at e5 e6 e7 e8
  have e9 := isTree_ok K.f1 K.f0 K.g0 K.g1 (n := n) (mc := h.length) (h := h5) (by omega) N.ok N.sz
  rw [N.no] at e9
  obtain ⟨v6, h6, e10, l6, B6, u6⟩ := draw K.draws (n := n) (mc := h.length) (r := 498) 3 (by omega) B5 (by decide) (by decide)
  rw [show ((3 : Nat) : Int) = 3 from rfl] at e10
  obtain ⟨v7, h7, e11, l7, B7, u7⟩ := draw K.draws (n := n) (mc := h.length) (r := 496) 3 (by omega) B6 (by decide) (by decide)
  rw [show ((3 : Nat) : Int) = 3 from rfl] at e11
  have hlt : (ns.take cnt).length = cnt := by simp; omega
  obtain ⟨n0, hn0⟩ : ∃ x, (ns.take cnt)[0]? = some x := ⟨_, List.getElem?_eq_getElem (by omega)⟩
  obtain ⟨p0, hp0⟩ : ∃ x, t0.paths[0]? = some x := ⟨_, List.getElem?_eq_getElem t0.pos⟩
  obtain ⟨w1, g1⟩ : ∃ w1, [D.str n0, .str f, .str []][v6]? = some (.str w1) := by
    match v6, l6 with
    | 0, _ => exact ⟨_, rfl⟩
    | 1, _ => exact ⟨_, rfl⟩
    | 2, _ => exact ⟨_, rfl⟩
  obtain ⟨w2, g2⟩ : ∃ w1, [D.str [], .str p0, .str [51]][v7]? = some (.str w1) := by
    match v7, l7 with
    | 0, _ => exact ⟨_, rfl⟩
    | 1, _ => exact ⟨_, rfl⟩
    | 2, _ => exact ⟨_, rfl⟩
  have u := (((((u1.trans u2).trans u3).trans u4).trans u5).trans u6).trans u7
  have plain1 : eqD (.tup [.int 1, .str []]) (.tup [.int 1, .str []]) = some true := eqD_pair (by simp)
  have hl0 : t0.paths.length = cnt := lt
  obtain ⟨σ', h8, e12, k, v10, v11, hx, hk, rfl, B8, u8⟩ := forGo_nx (tg := [10]) (st := fun _ => true) (b := evSs (cfN T n false h.length) C3.round_b1)
    (fun xs σ h' => ∃ (k : Nat) (v10 v11 : Option Sl), xs = rngL k (6 - k) ∧ k ≤ 6 ∧ σ = [some (.v (.box j)), some (.v (.int cnt)), some (.v (.lst ((ns.take cnt).map .str))), some (.v (.str f)), some (.v (.str s)), some (.v (.lst (t0.paths.map .str))), some (.v t.val), some (.v d), some (.v (.str w1)), some (.v (.str w2)), v10, v11] ∧ Bag h' j (400 + 2 * (6 - k)) ∧ Upd j h h')
    (fun _ _ _ _ => rfl) (by
      rintro x rs σ h' ⟨k, v10, v11, hx, hk, rfl, B', u'⟩
      have hk2 : k < 6 := by
        by_cases e : k = 6
        · subst e; cases hx
        · omega
      rw [show 6 - k = (6 - (k + 1)) + 1 by omega, rngL_cons] at hx
      cases hx
      refine ⟨_, rfl, ?_⟩
      obtain ⟨v, h2, e2, l2, B2, u2⟩ := draw K.draws (n := n) (mc := h.length) (r := 400 + 2 * (6 - (k + 1))) 2 (by omega) (B'.mono (by omega)) (by decide) (by decide)
      rw [show ((2 : Nat) : Int) = 2 from rfl] at e2
      have a1 := ask_no K N hk2 (w := w1) (s := .int v) (n := n) (mc := h.length) (h := h2) (by omega)
      have a2 := ask_no K N hk2 (w := w2) (s := .int v) (n := n) (mc := h.length) (h := h2) (by omega)
      by_cases e : k = 2
      · have e' : ((k : Int) = 2) = True := by simp; omega
        simp -implicitDefEqProofs -dsimp only [C3.round_b1, Out.andThen_nx, Out.andThen_rt, Out.andThen_ex, Out.andThen_st, R.bind_ok, R.bind_ex, R.bind_st, R.nox_ok, fromR_ok, fromR_ex, fromR_st, bnd_ok, bnd_ex, bnd_st, frm_ok, frm_ex, frm_st, thn_nx, thn_rt, thn_ex, thn_st, trO_ex, trO_nx, trO_rt, e_var, e_non, e_bl, e_int, e_str, e_glo, e_op1, e_op2, e_op3, e_cmp, e_cmp3, e_and, e_or, e_not, e_ite, e_tup, e_lst, e_dct0, e_set0, e_call, e_new, e_fld, e_lc, e_dc, e_isE, e_isV, e_atE, t_cmp, t_cmp3, t_and, t_or, t_not, t_ite, t_var, t_bl, t_op1, t_op2, t_call, t_fld, t_isE, t_isV, x_nil, x_cons, a_nil, a_ex, a_ec, r_e, r_rng1, r_rng2, s_expr, s_set, s_unp, s_seti, s_setf, s_ret, s_raise, s_ite, s_whl, s_for, s_tr, s_pass, ss_nil, ss_cons, getV, optV, List.getElem?_cons_zero, List.getElem?_cons_succ, List.set_cons_zero, List.set_cons_succ, startE, List.map_cons, List.map_nil, List.length_cons, List.length_nil, List.cons_append, List.nil_append, recv, sem1, sem2, optB, truthR, truth, seqL, isI, calm1, calm2, cfN_hot, cfN_m, cfN_call, cfN_glo, cfN_sub, cfN_sve, cfN_exn, Bool.false_and, Bool.true_and, Bool.and_true, Bool.and_false, Bool.or_true, Bool.true_or, Bool.or_false, Bool.false_or, Bool.not_true, Bool.not_false, if_true, if_false, Bool.false_eq_true, reduceIte, Option.map_some, Option.map_none, reduceCtorEq, ixD, atI_0, atI_1, atI_2, atI_3, atI_4, atI_5, atI_6, atI_7, atI_8, atI_9, atI_10, atI_11, atI_12, atI_nat', decide_true, decide_false, Bool.and_self, Option.isSome_some, Option.isSome_none, eqD_int, eqD_str, List.append_nil, stays_lst', stays_non', stays_tup', stays_str', stays_dic', wipeE, List.foldr_cons, List.foldr_nil, setV, mkL, mkD, items, lineN, Nat.reduceLeDiff,  List.reduceReplicate, Nat.reduceAdd, Nat.reduceSub, e', e2, a1, plain1]
        exact ⟨_, _, rfl, k + 1, _, _, rfl, by omega, rfl, B2, u'.trans u2⟩
      · have e' : ((k : Int) = 2) = False := by simp; omega
        simp -implicitDefEqProofs -dsimp only [C3.round_b1, Out.andThen_nx, Out.andThen_rt, Out.andThen_ex, Out.andThen_st, R.bind_ok, R.bind_ex, R.bind_st, R.nox_ok, fromR_ok, fromR_ex, fromR_st, bnd_ok, bnd_ex, bnd_st, frm_ok, frm_ex, frm_st, thn_nx, thn_rt, thn_ex, thn_st, trO_ex, trO_nx, trO_rt, e_var, e_non, e_bl, e_int, e_str, e_glo, e_op1, e_op2, e_op3, e_cmp, e_cmp3, e_and, e_or, e_not, e_ite, e_tup, e_lst, e_dct0, e_set0, e_call, e_new, e_fld, e_lc, e_dc, e_isE, e_isV, e_atE, t_cmp, t_cmp3, t_and, t_or, t_not, t_ite, t_var, t_bl, t_op1, t_op2, t_call, t_fld, t_isE, t_isV, x_nil, x_cons, a_nil, a_ex, a_ec, r_e, r_rng1, r_rng2, s_expr, s_set, s_unp, s_seti, s_setf, s_ret, s_raise, s_ite, s_whl, s_for, s_tr, s_pass, ss_nil, ss_cons, getV, optV, List.getElem?_cons_zero, List.getElem?_cons_succ, List.set_cons_zero, List.set_cons_succ, startE, List.map_cons, List.map_nil, List.length_cons, List.length_nil, List.cons_append, List.nil_append, recv, sem1, sem2, optB, truthR, truth, seqL, isI, calm1, calm2, cfN_hot, cfN_m, cfN_call, cfN_glo, cfN_sub, cfN_sve, cfN_exn, Bool.false_and, Bool.true_and, Bool.and_true, Bool.and_false, Bool.or_true, Bool.true_or, Bool.or_false, Bool.false_or, Bool.not_true, Bool.not_false, if_true, if_false, Bool.false_eq_true, reduceIte, Option.map_some, Option.map_none, reduceCtorEq, ixD, atI_0, atI_1, atI_2, atI_3, atI_4, atI_5, atI_6, atI_7, atI_8, atI_9, atI_10, atI_11, atI_12, atI_nat', decide_true, decide_false, Bool.and_self, Option.isSome_some, Option.isSome_none, eqD_int, eqD_str, List.append_nil, stays_lst', stays_non', stays_tup', stays_str', stays_dic', wipeE, List.foldr_cons, List.foldr_nil, setV, mkL, mkD, items, lineN, Nat.reduceLeDiff,  List.reduceReplicate, Nat.reduceAdd, Nat.reduceSub, e', e2, a2, plain1]
        exact ⟨_, _, rfl, k + 1, _, _, rfl, by omega, rfl, B2, u'.trans u2⟩) (rngL 0 6) _ _ ⟨0, none, none, rfl, by omega, rfl, B7.mono (by omega), u⟩
  refine ⟨h8, ?_⟩
  have tk : (ns.map D.str).take cnt = (ns.take cnt).map .str := by rw [List.map_take]
  rw [callF K.f29 rfl rfl rfl]
  simp -implicitDefEqProofs -dsimp only [C3.round, Out.andThen_nx, Out.andThen_rt, Out.andThen_ex, Out.andThen_st, R.bind_ok, R.bind_ex, R.bind_st, R.nox_ok, fromR_ok, fromR_ex, fromR_st, bnd_ok, bnd_ex, bnd_st, frm_ok, frm_ex, frm_st, thn_nx, thn_rt, thn_ex, thn_st, trO_ex, trO_nx, trO_rt, e_var, e_non, e_bl, e_int, e_str, e_glo, e_op1, e_op2, e_op3, e_cmp, e_cmp3, e_and, e_or, e_not, e_ite, e_tup, e_lst, e_dct0, e_set0, e_call, e_new, e_fld, e_lc, e_dc, e_isE, e_isV, e_atE, t_cmp, t_cmp3, t_and, t_or, t_not, t_ite, t_var, t_bl, t_op1, t_op2, t_call, t_fld, t_isE, t_isV, x_nil, x_cons, a_nil, a_ex, a_ec, r_e, r_rng1, r_rng2, s_expr, s_set, s_unp, s_seti, s_setf, s_ret, s_raise, s_ite, s_whl, s_for, s_tr, s_pass, ss_nil, ss_cons, getV, optV, List.getElem?_cons_zero, List.getElem?_cons_succ, List.set_cons_zero, List.set_cons_succ, startE, List.map_cons, List.map_nil, List.length_cons, List.length_nil, List.cons_append, List.nil_append, recv, sem1, sem2, optB, truthR, truth, seqL, isI, calm1, calm2, cfN_hot, cfN_m, cfN_call, cfN_glo, cfN_sub, cfN_sve, cfN_exn, Bool.false_and, Bool.true_and, Bool.and_true, Bool.and_false, Bool.or_true, Bool.true_or, Bool.or_false, Bool.false_or, Bool.not_true, Bool.not_false, if_true, if_false, Bool.false_eq_true, reduceIte, Option.map_some, Option.map_none, reduceCtorEq, ixD, atI_0, atI_1, atI_2, atI_3, atI_4, atI_5, atI_6, atI_7, atI_8, atI_9, atI_10, atI_11, atI_12, atI_nat', decide_true, decide_false, Bool.and_self, Option.isSome_some, Option.isSome_none, eqD_int, eqD_str, List.append_nil, stays_lst', stays_non', stays_tup', stays_str', stays_dic', wipeE, List.foldr_cons, List.foldr_nil, setV, mkL, mkD, items, lineN, Nat.reduceLeDiff,  List.reduceReplicate, Nat.reduceAdd, Nat.reduceSub, e1, cc, e2, List.getElem?_map, hf, c2, hs, slice, cut_to, tk, e3, e4, e5, e6, e7, e8, e9, isD, hn0, e10, g1, hp0, e11, g2, show inR 6 = true from rfl, show Int.toNat 6 = 6 from rfl, e12]
  exact exit_rt rfl (List.take_of_length_le (by simp [u8.1]))

theorem law_ok (zs : List Int) (hl : zs.length ≤ 63) : ∃ h, callN T 60 false 0 30 [.v (.lst (zs.map .int))] [] = .ok (.bl true) h := by
  obtain ⟨m, hm, hm5⟩ : ∃ m : Nat, min (5 : Int) (1 + ((zs.map D.int).length : Int)) = (m : Int) ∧ m ≤ 5 := ⟨min 5 (1 + zs.length), by simp; omega, by omega⟩
  have r1 : inR (m : Int) = true := by unfold inR; exact decide_eq_true (by omega)
  obtain ⟨σ', h8, e, k, v1, hx, hk, rfl⟩ := forGo_nx (tg := [1]) (st := fun _ => true) (b := evSs (cfN T 59 false 0) C3.law_b1)
    (fun xs σ h' => ∃ (k : Nat) (v1 : Option Sl), xs = rngL k (m - k) ∧ k ≤ m ∧ σ = [some (.v (.lst (zs.map .int))), v1])
    (fun _ _ _ _ => rfl) (by
      rintro x rs σ h' ⟨k, v1, hx, hk, rfl⟩
      have hk2 : k < m := by
        by_cases e : k = m
        · subst e; rw [Nat.sub_self] at hx; cases hx
        · omega
      rw [show m - k = (m - (k + 1)) + 1 by omega, rngL_cons] at hx
      cases hx
      refine ⟨_, rfl, ?_⟩
      obtain ⟨h1, e1, B1⟩ := bag_ok K zs (k := k) (by omega) (by omega) (n := 59) (mc := 0) (h := h') (by omega)
      obtain ⟨h2, e2⟩ := round_ok K (n := 59) (mc := 0) (h := h1) (by omega) B1
      simp -implicitDefEqProofs -dsimp only [C3.law_b1, Out.andThen_nx, Out.andThen_rt, Out.andThen_ex, Out.andThen_st, R.bind_ok, R.bind_ex, R.bind_st, R.nox_ok, fromR_ok, fromR_ex, fromR_st, bnd_ok, bnd_ex, bnd_st, frm_ok, frm_ex, frm_st, thn_nx, thn_rt, thn_ex, thn_st, trO_ex, trO_nx, trO_rt, e_var, e_non, e_bl, e_int, e_str, e_glo, e_op1, e_op2, e_op3, e_cmp, e_cmp3, e_and, e_or, e_not, e_ite, e_tup, e_lst, e_dct0, e_set0, e_call, e_new, e_fld, e_lc, e_dc, e_isE, e_isV, e_atE, t_cmp, t_cmp3, t_and, t_or, t_not, t_ite, t_var, t_bl, t_op1, t_op2, t_call, t_fld, t_isE, t_isV, x_nil, x_cons, a_nil, a_ex, a_ec, r_e, r_rng1, r_rng2, s_expr, s_set, s_unp, s_seti, s_setf, s_ret, s_raise, s_ite, s_whl, s_for, s_tr, s_pass, ss_nil, ss_cons, getV, optV, List.getElem?_cons_zero, List.getElem?_cons_succ, List.set_cons_zero, List.set_cons_succ, startE, List.map_cons, List.map_nil, List.length_cons, List.length_nil, List.cons_append, List.nil_append, recv, sem1, sem2, optB, truthR, truth, seqL, isI, calm1, calm2, cfN_hot, cfN_m, cfN_call, cfN_glo, cfN_sub, cfN_sve, cfN_exn, Bool.false_and, Bool.true_and, Bool.and_true, Bool.and_false, Bool.or_true, Bool.true_or, Bool.or_false, Bool.false_or, Bool.not_true, Bool.not_false, if_true, if_false, Bool.false_eq_true, reduceIte, Option.map_some, Option.map_none, reduceCtorEq, ixD, atI_0, atI_1, atI_2, atI_3, atI_4, atI_5, atI_6, atI_7, atI_8, atI_9, atI_10, atI_11, atI_12, atI_nat', decide_true, decide_false, Bool.and_self, Option.isSome_some, Option.isSome_none, eqD_int, eqD_str, List.append_nil, stays_lst', stays_non', stays_tup', stays_str', stays_dic', wipeE, List.foldr_cons, List.foldr_nil, setV, mkL, mkD, items, lineN, Nat.reduceLeDiff,  List.reduceReplicate, Nat.reduceAdd, Nat.reduceSub, e1, e2]
      exact ⟨_, _, rfl, k + 1, _, rfl, by omega, rfl⟩) (rngL 0 m) _ [] ⟨0, none, rfl, by omega, rfl⟩
  refine ⟨[], ?_⟩
  rw [callF K.f30 rfl rfl rfl]
  simp -implicitDefEqProofs -dsimp only [C3.law, Out.andThen_nx, Out.andThen_rt, Out.andThen_ex, Out.andThen_st, R.bind_ok, R.bind_ex, R.bind_st, R.nox_ok, fromR_ok, fromR_ex, fromR_st, bnd_ok, bnd_ex, bnd_st, frm_ok, frm_ex, frm_st, thn_nx, thn_rt, thn_ex, thn_st, trO_ex, trO_nx, trO_rt, e_var, e_non, e_bl, e_int, e_str, e_glo, e_op1, e_op2, e_op3, e_cmp, e_cmp3, e_and, e_or, e_not, e_ite, e_tup, e_lst, e_dct0, e_set0, e_call, e_new, e_fld, e_lc, e_dc, e_isE, e_isV, e_atE, t_cmp, t_cmp3, t_and, t_or, t_not, t_ite, t_var, t_bl, t_op1, t_op2, t_call, t_fld, t_isE, t_isV, x_nil, x_cons, a_nil, a_ex, a_ec, r_e, r_rng1, r_rng2, s_expr, s_set, s_unp, s_seti, s_setf, s_ret, s_raise, s_ite, s_whl, s_for, s_tr, s_pass, ss_nil, ss_cons, getV, optV, List.getElem?_cons_zero, List.getElem?_cons_succ, List.set_cons_zero, List.set_cons_succ, startE, List.map_cons, List.map_nil, List.length_cons, List.length_nil, List.cons_append, List.nil_append, recv, sem1, sem2, optB, truthR, truth, seqL, isI, calm1, calm2, cfN_hot, cfN_m, cfN_call, cfN_glo, cfN_sub, cfN_sve, cfN_exn, Bool.false_and, Bool.true_and, Bool.and_true, Bool.and_false, Bool.or_true, Bool.true_or, Bool.or_false, Bool.false_or, Bool.not_true, Bool.not_false, if_true, if_false, Bool.false_eq_true, reduceIte, Option.map_some, Option.map_none, reduceCtorEq, ixD, atI_0, atI_1, atI_2, atI_3, atI_4, atI_5, atI_6, atI_7, atI_8, atI_9, atI_10, atI_11, atI_12, atI_nat', decide_true, decide_false, Bool.and_self, Option.isSome_some, Option.isSome_none, eqD_int, eqD_str, List.append_nil, stays_lst', stays_non', stays_tup', stays_str', stays_dic', wipeE, List.foldr_cons, List.foldr_nil, setV, mkL, mkD, items, lineN, Nat.reduceLeDiff,  List.reduceReplicate, Nat.reduceAdd, Nat.reduceSub, hm, r1, Int.toNat_natCast]
  rw [e]
  simp -implicitDefEqProofs -dsimp only [Out.andThen_nx, Out.andThen_rt, Out.andThen_ex, Out.andThen_st, R.bind_ok, R.bind_ex, R.bind_st, R.nox_ok, fromR_ok, fromR_ex, fromR_st, bnd_ok, bnd_ex, bnd_st, frm_ok, frm_ex, frm_st, thn_nx, thn_rt, thn_ex, thn_st, trO_ex, trO_nx, trO_rt, e_var, e_non, e_bl, e_int, e_str, e_glo, e_op1, e_op2, e_op3, e_cmp, e_cmp3, e_and, e_or, e_not, e_ite, e_tup, e_lst, e_dct0, e_set0, e_call, e_new, e_fld, e_lc, e_dc, e_isE, e_isV, e_atE, t_cmp, t_cmp3, t_and, t_or, t_not, t_ite, t_var, t_bl, t_op1, t_op2, t_call, t_fld, t_isE, t_isV, x_nil, x_cons, a_nil, a_ex, a_ec, r_e, r_rng1, r_rng2, s_expr, s_set, s_unp, s_seti, s_setf, s_ret, s_raise, s_ite, s_whl, s_for, s_tr, s_pass, ss_nil, ss_cons, getV, optV, List.getElem?_cons_zero, List.getElem?_cons_succ, List.set_cons_zero, List.set_cons_succ, startE, List.map_cons, List.map_nil, List.length_cons, List.length_nil, List.cons_append, List.nil_append, recv, sem1, sem2, optB, truthR, truth, seqL, isI, calm1, calm2, cfN_hot, cfN_m, cfN_call, cfN_glo, cfN_sub, cfN_sve, cfN_exn, Bool.false_and, Bool.true_and, Bool.and_true, Bool.and_false, Bool.or_true, Bool.true_or, Bool.or_false, Bool.false_or, Bool.not_true, Bool.not_false, if_true, if_false, Bool.false_eq_true, reduceIte, Option.map_some, Option.map_none, reduceCtorEq, ixD, atI_0, atI_1, atI_2, atI_3, atI_4, atI_5, atI_6, atI_7, atI_8, atI_9, atI_10, atI_11, atI_12, atI_nat', decide_true, decide_false, Bool.and_self, Option.isSome_some, Option.isSome_none, eqD_int, eqD_str, List.append_nil, stays_lst', stays_non', stays_tup', stays_str', stays_dic', wipeE, List.foldr_cons, List.foldr_nil, setV, mkL, mkD, items, lineN, Nat.reduceLeDiff,  List.reduceReplicate, Nat.reduceAdd, Nat.reduceSub]
  exact exit_rt rfl rfl
end
end Q
end FV

namespace FV
namespace Q
theorem tb3 : Tb3 K03.lay.T where
  f0 := rfl
  f1 := rfl
  f2 := rfl
  f3 := rfl
  f4 := rfl
  f5 := rfl
  f6 := rfl
  f7 := rfl
  f8 := rfl
  f9 := rfl
  f10 := rfl
  f11 := rfl
  f12 := rfl
  f13 := rfl
  f14 := rfl
  f15 := rfl
  f16 := rfl
  f17 := rfl
  f18 := rfl
  f19 := rfl
  f20 := rfl
  f21 := rfl
  f22 := rfl
  f23 := rfl
  f24 := rfl
  f25 := rfl
  f26 := rfl
  f27 := rfl
  f28 := rfl
  f29 := rfl
  f30 := rfl
  g0 := rfl
  g1 := rfl
  x2 := rfl
  x3 := rfl
  x5 := rfl
  s2 := by decide +kernel
  s3 := by decide +kernel
  s5 := by decide +kernel
  v := fun _ => rfl
end Q
end FV


theorem PySem.Challenge.cw_forkflags_k03_whole_ways_of_trees_holds : PySem.Challenge.rw_forkflags_k03_whole_ways_of_trees.Holds :=
  K03.holds 60 (by decide) fun ns hl => FV.Q.law_ok FV.Q.tb3 ns hl
