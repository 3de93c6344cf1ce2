import PyProof.Rows.All
import Wide.All
import OpenK.AllK
import Wide.FinOn
import PyProof.EqAt
import PyProof.EqKinds
import PyProof.TupleCall
import HandS.ForMost
import HandS.Wide
import HandS.Gcd
import HandS.IsInst
import HandS.Zip
import HandS.TupAny
import HandS.Style
import KE.DataEq
import HandS.Words
import HandS.Ends
import HandS.List
import HandS.RaiseMore
import KE.GoesEnumKw
import HandS.HeadWalk
import HandS.StrMore
import HandS.FStr
import Flt.RightSqrt
import PySem.Challenge.RW_crewclocks_k09_whole_flights_with_a_wish
set_option Elab.async false
set_option linter.all false
set_option maxRecDepth 100000
set_option maxHeartbeats 8000000
/-! A small functional reading of Python defs over pure data, and its link with the layer HandS. -/
namespace Mn
open PySem L2

/-- pure data -/
inductive D where
  | non | bl (b : Bool) | int (i : Int) | str (x : PySem.Str)
  | tup (xs : List D) | lst (xs : List D)
  | scr (ns : List Int)
  | obj (c : PySem.Str) (ks : List PySem.Str) (xs : List D)
  | adr (a : Addr)

/-- what a slot holds: a datum, a list of one's own that may change, a list that was handed in to be changed -/
inductive Sl where
  | val (d : D) | own (xs : List D) | par (xs : List D) | slf
abbrev Env := List (Option Sl)

inductive BO | add | sub | mul | div | mod | pow
inductive CO | eq | ne | lt | le | gt | ge | is | isn | inn | nin
inductive BF | abs | int | len | sum | max | min | all | any | list | tuple | gcd | isqrt | repr | str | isi (t : String)
/-- a method: of a text, of an object of one's own -/
inductive Mt | split | part | pre | asc | dig | stw | join | own (c m g : PySem.Str) | ownk (c m g : PySem.Str) | lno (c g : PySem.Str)
inductive Wk | seq | zip | enum | rng | enumS (k : Nat)
inductive Tg | one (i : Nat) | many (is : List Nat)

inductive Ex where
  | var (i : Nat) | con (d : D) | glo (x : PySem.Str)
  | ixv (i : Nat) (e : Ex) | lenv (i : Nat)
  | bin (o : BO) (a b : Ex) | neg (a : Ex)
  | cmp (o : CO) (a b : Ex)
  | vand (a b : Ex) | vor (a b : Ex) | vnot (a : Ex)
  | tand (a b : Ex) | tor (a b : Ex) | tnot (a : Ex) | tvar (i : Nat) | tval (a : Ex) | tyes
  | ite (c a b : Ex)
  | tup (es : Ex) | lst (es : Ex) | nil | cons (e es : Ex) | ref (i : Nat)
  | ix (a i : Ex) | slc (a lo hi : Ex) | rev (a : Ex)
  | call (f : PySem.Str) (pm : List Nat) (es : Ex)
  | calln (f g : PySem.Str) (es : Ex) | lrng (e : Ex)
  | blt (f : BF) (es : Ex)
  | comp (w : Wk) (src : Ex) (tg : Tg) (cd el : Ex) (own : List Nat)
  | att (cs : List PySem.Str) (e : Ex) (f : PySem.Str) | sg (f : PySem.Str) | mk (c : PySem.Str) (es : Ex) | mth (m : Mt) (e es : Ex) | fst (es : Ex) | opq

inductive Sm where
  | nil | seq (s r : Sm)
  | asg (i : Nat) (e : Ex) | own (i : Nat) (e : Ex)
  | unp (is : List Nat) (e : Ex)
  | par (i j : Nat) (oi oj : Bool) (a b : Ex)
  | par3 (i j k : Nat) (es : Ex)
  | app (i : Nat) (e : Ex) | seti (i : Nat) (k e : Ex)
  | ret (e : Ex) | retn
  | iff (c : Ex) (t e : Sm)
  | whl (c : Ex) (b : Sm)
  | for_ (w : Wk) (src : Ex) (tg : Tg) (b : Sm)
  | brk | cnt | pas
  | exp (e : Ex)
  | never
  | sset (f : PySem.Str) (e : Ex)

inductive Fl where
  | nx | rt (d : D) | bk | ct
inductive Ar where
  | v (d : D) | r (i : Nat)

/-- small enough to be multiplied, to divide by -/
def sm (i : Int) : Bool := decide (i.natAbs.log2 < 8000)
def lim : Nat := 1000000
/-- within k bits -/
def wi (k : Nat) (i : Int) : Bool := decide (i.natAbs.log2 < k)
theorem wi_lt {k : Nat} {i : Int} (h : wi k i = true) (hk : 0 < k) : i.natAbs < 2 ^ k := by
  unfold wi at h
  rw [decide_eq_true_eq] at h
  by_cases z : i.natAbs = 0
  · rw [z]; exact Nat.pos_of_ne_zero (by simp)
  · exact (Nat.log2_lt z).1 h
theorem lt_wi {k : Nat} {i : Int} (h : i.natAbs < 2 ^ k) (hk : 0 < k) : wi k i = true := by
  unfold wi
  rw [decide_eq_true_eq]
  by_cases z : i.natAbs = 0
  · rw [z]; exact hk
  · exact (Nat.log2_lt z).2 h

/-! ### data as the library's data -/
mutual
def toP : D → PyData
  | .non => .none
  | .bl b => .bool b
  | .int i => .int i
  | .str x => .str x
  | .tup xs => .tuple (toPL xs)
  | .lst xs => .list (toPL xs)
  | .scr ns => .list (ns.map PyData.int)
  | .obj _ _ _ => .none
  | .adr _ => .none
def toPL : List D → List PyData
  | [] => []
  | x :: xs => toP x :: toPL xs
end
mutual
/-- no object within -/
def nob : D → Bool
  | .obj _ _ _ => false
  | .adr _ => false
  | .tup xs => nobL xs
  | .lst xs => nobL xs
  | .non => true
  | .bl _ => true
  | .int _ => true
  | .str _ => true
  | .scr _ => true
def nobL : List D → Bool
  | [] => true
  | x :: xs => nob x && nobL xs
end
def deq (a b : D) : Bool := PyData.eqv (toP a) (toP b)
/-- fit for == -/
def dsh (a : D) : Bool := nob a && decide ((toP a).depth ≤ 40)

/-- fit to be shown by repr -/
def shd (d : D) : Bool := nob d && (toP d).showable && !(toP d).hasDict && decide ((toP d).depth ≤ 40) && (toP d).leavesShort 2000 && decide ((toP d).weight ≤ 8000)
def opB : BO → D → D → Option D
  | .add, .int i, .int j => some (.int (i + j))
  | .sub, .int i, .int j => some (.int (i - j))
  | .mul, .int i, .int j => if sm i && sm j then some (.int (i * j)) else none
  | .div, .int i, .int j => if sm j && decide (j ≠ 0) then some (.int (i.fdiv j)) else none
  | .mod, .int i, .int j => if decide (0 < j) then some (.int (i % j)) else none
  | .pow, .int i, .int j => if sm i && decide (0 ≤ j) && decide (j ≤ 1000) then some (.int (i ^ j.toNat)) else none
  | .add, .str x, .str y => if x.length + y.length ≤ lim then some (.str (x ++ y)) else none
  | .add, .lst xs, .lst ys => if xs.length + ys.length ≤ lim then some (.lst (xs ++ ys)) else none
  | .add, .tup xs, .tup ys => if xs.length + ys.length ≤ lim then some (.tup (xs ++ ys)) else none
  | .mul, .lst xs, .int k => if wi 62 k && decide (xs.length * k.toNat ≤ lim) then some (.lst (List.replicate k.toNat xs).flatten) else none
  | _, _, _ => none
def opC : CO → D → D → Option Bool
  | .eq, a, b => if dsh a && dsh b then some (deq a b) else none
  | .ne, a, b => if dsh a && dsh b then some (!deq a b) else none
  | .lt, .int i, .int j => some (decide (i < j))
  | .le, .int i, .int j => some (decide (i ≤ j))
  | .gt, .int i, .int j => some (decide (j < i))
  | .ge, .int i, .int j => some (decide (j ≤ i))
  | .is, .non, .non => some true
  | .is, .bl a, .non => some false
  | .is, .int a, .non => some false
  | .is, .str a, .non => some false
  | .is, .tup a, .non => some false
  | .is, .lst a, .non => some false
  | .is, .obj _ _ _, .non => some false
  | .isn, .non, .non => some false
  | .isn, .bl a, .non => some true
  | .isn, .int a, .non => some true
  | .isn, .str a, .non => some true
  | .isn, .tup a, .non => some true
  | .isn, .lst a, .non => some true
  | .isn, .obj _ _ _, .non => some true
  | .is, .bl a, .bl b => some (a == b)
  | .isn, .bl a, .bl b => some (a != b)
  | .inn, a, .tup ys => if dsh a && nobL ys then some (ys.any fun y => deq y a) else none
  | .inn, a, .lst ys => if dsh a && nobL ys then some (ys.any fun y => deq y a) else none
  | .nin, a, .tup ys => if dsh a && nobL ys then some (!ys.any fun y => deq y a) else none
  | .nin, a, .lst ys => if dsh a && nobL ys then some (!ys.any fun y => deq y a) else none
  | _, _, _ => none
def tru : D → Option Bool
  | .bl b => some b
  | .non => some false
  | .int i => some (i != 0)
  | .str x => if x.length ≤ lim then some ((x.length : Int) != 0) else none
  | .tup xs => some (!xs.isEmpty)
  | .lst xs => some (!xs.isEmpty)
  | .scr _ => none
  | .obj _ _ _ => none
  | .adr _ => none
def intsD : List D → Option (List Int)
  | [] => some []
  | .int i :: r => (intsD r).map (i :: ·)
  | _ => none
def boolsD : List D → Option (List Bool)
  | [] => some []
  | .bl i :: r => (boolsD r).map (i :: ·)
  | _ => none
/-- its built-in class -/
def tyOf : D → String
  | .non => "NoneType" | .bl _ => "bool" | .int _ => "int" | .str _ => "str" | .tup _ => "tuple" | .lst _ => "list" | .scr _ => "list" | .obj _ _ _ => "" | .adr _ => ""
def opF : BF → List D → Option D
  | .abs, [.int i] => some (.int (if i < 0 then -i else i))
  | .int, [.int i] => some (.int i)
  | .int, [.bl b] => some (.int (if b then 1 else 0))
  | .int, [.str a] => if a.length ≤ 640 then (PySem.intText? a).map D.int else none
  | .len, [.lst xs] => some (.int xs.length)
  | .len, [.tup xs] => some (.int xs.length)
  | .len, [.scr xs] => some (.int xs.length)
  | .len, [.str x] => if x.length ≤ lim then some (.int x.length) else none
  | .sum, [.lst xs] => (intsD xs).map fun ns => .int ns.sum
  | .max, [.int i, .int j] => some (.int (if j > i then j else i))
  | .min, [.int i, .int j] => some (.int (if j < i then j else i))
  | .all, [.lst xs] => (boolsD xs).map fun bs => .bl (bs.all id)
  | .any, [.lst xs] => (boolsD xs).map fun bs => .bl (bs.any id)
  | .list, [.lst xs] => some (.lst xs)
  | .list, [.tup xs] => some (.lst xs)
  | .tuple, [.lst xs] => some (.tup xs)
  | .tuple, [.tup xs] => some (.tup xs)
  | .gcd, [.int i, .int j] => some (.int ((Nat.gcd i.natAbs j.natAbs : Nat) : Int))
  | .isqrt, [.int i] => if decide (0 ≤ i) && wi 63 i then some (.int ((Float64.isqrt i.toNat : Nat) : Int)) else none
  | .repr, [.bl b] => some (.str (if b then "True" else "False"))
  | .repr, [.non] => some (.str "None")
  | .repr, [.int i] => if i.natAbs.log2 < 1920 then some (.str (PySem.Str.ofString (toString i))) else none
  | .repr, [.tup xs] => if shd (.tup xs) then some (.str (toP (.tup xs)).shown) else none
  | .str, [.int i] => if i.natAbs.log2 < 1920 then some (.str (PySem.Str.ofString (toString i))) else none
  | .str, [.str a] => some (.str a)
  | .isi t, [d] => (match d with | .obj _ _ _ => none | .adr _ => none | _ => (kitB (tyOf d) t).map D.bl)
  | _, _ => none
def strsD : List D → Option (List PySem.Str)
  | [] => some []
  | .str x :: r => (strsD r).map (x :: ·)
  | _ => none
/-- a text's method -/
def opM : Mt → D → List D → Option D
  | .split, .str a, [.str b] => if (b.length == 0) = false ∧ a.length + 2 ≤ lim then some (.lst ((Txt.split a b).map D.str)) else none
  | .part, .str a, [.str b] => if (b.length == 0) = false ∧ a.length ≤ lim then some (.tup [.str (Txt.partition a b).1, .str (Txt.partition a b).2.1, .str (Txt.partition a b).2.2]) else none
  | .pre, .str a, [.str b] => if a.length ≤ lim then some (.str (Txt.removeprefix a b)) else none
  | .asc, .str a, [] => some (.bl (Txt.isascii a))
  | .dig, .str a, [] => some (.bl (Txt.isdigit a))
  | .stw, .str a, [.str b] => some (.bl (Txt.startswith a b))
  | .join, .str a, [.lst ds] => (strsD ds).bind fun ys => if (ys.map (·.length)).sum + ys.length * a.length ≤ lim then some (.str (Txt.join a ys)) else none
  | .join, .str a, [.tup ds] => (strsD ds).bind fun ys => if (ys.map (·.length)).sum + ys.length * a.length ≤ lim then some (.str (Txt.join a ys)) else none
  | _, _, _ => none
/-- the parts of an f-string, one behind the other -/
def catA : PySem.Str → List D → Option PySem.Str
  | acc, [] => some acc
  | acc, .str x :: r => if x.length ≤ lim ∧ (acc ++ x).length ≤ lim then catA (acc ++ x) r else none
  | acc, .int i :: r => if i.natAbs.log2 < 1920 ∧ (acc ++ PySem.Str.ofString (toString i)).length ≤ lim then catA (acc ++ PySem.Str.ofString (toString i)) r else none
  | _, _ => none
def opIx : D → D → Option D
  | .lst xs, .int i => atI xs i
  | .tup xs, .int i => atI xs i
  | .scr xs, .int i => (atI xs i).map D.int
  | _, _ => none
def cutD (xs : List D) (lo hi : Option Int) : List D := (xs.drop (HT.sIx xs.length 0 lo)).take (HT.sIx xs.length xs.length hi - HT.sIx xs.length 0 lo)
def opSl : D → Option Int → Option Int → Option D
  | .lst xs, l, h => some (.lst (cutD xs l h))
  | .tup xs, l, h => some (.tup (cutD xs l h))
  | .scr xs, l, h => some (.lst (cutD (xs.map D.int) l h))
  | .str x, l, h => if x.length ≤ lim then some (.str (cutS x l h)) else none
  | _, _, _ => none
def ran (n : Nat) : List D := (List.range n).map fun (k : Nat) => D.int k
def enu : Nat → List D → List D
  | _, [] => []
  | k, x :: r => .tup [.int (k : Int), x] :: enu (k + 1) r
def walk : Wk → List D → Option (List D)
  | .seq, [.lst xs] => some xs
  | .seq, [.tup xs] => some xs
  | .zip, [.lst xs, .lst ys] => some ((xs.zip ys).map fun p => .tup [p.1, p.2])
  | .zip, [.tup xs, .tup ys] => some ((xs.zip ys).map fun p => .tup [p.1, p.2])
  | .enum, [.lst xs] => some (enu 0 xs)
  | .enumS k, [.lst xs] => some (enu k xs)
  | .rng, [.int n] => if wi 19 n then some (ran n.toNat) else none
  | _, _ => none

/-! ### slots -/
def putS (env : Env) (i : Nat) (s : Sl) : Option Env :=
  match env[i]? with
  | some (some (.par _)) => none
  | some (some .slf) => none
  | some _ => some (env.set i (some s))
  | none => none
def unpS : List Nat → List D → Env → Option Env
  | [], [], env => some env
  | i :: is, d :: ds, env => do let e ← putS env i (.val d); unpS is ds e
  | _, _, _ => none
def bindT : Tg → D → Env → Option Env
  | .one i, d, env => putS env i (.val d)
  | .many is, .tup ds, env => unpS is ds env
  | _, _, _ => none
def wipeE (env : Env) : List Nat → Env
  | [] => env
  | v :: vs => (wipeE env vs).set v none
/-- behind a comprehension's turn: its own slots as they were -/
def backE (e0 : Env) : Env → List Nat → Env
  | env, [] => env
  | env, v :: vs => (backE e0 env vs).set v (e0[v]?.join)
def peek (env : Env) (i : Nat) : Option D :=
  match env[i]? with
  | some (some (.val d)) => some d
  | some (some (.own xs)) => some (.lst xs)
  | some (some (.par xs)) => some (.lst xs)
  | _ => none
def mutS (env : Env) (i : Nat) : Option (List D) :=
  match env[i]? with
  | some (some (.own xs)) => some xs
  | some (some (.par xs)) => some xs
  | _ => none
def setM (env : Env) (i : Nat) (xs : List D) : Env :=
  match env[i]? with
  | some (some (.own _)) => env.set i (some (.own xs))
  | some (some (.par _)) => env.set i (some (.par xs))
  | _ => env
def refs : List Ar → List Nat
  | [] => []
  | .v _ :: r => refs r
  | .r i :: r => i :: refs r
def argS (env : Env) : List Ar → Option (List Sl)
  | [] => some []
  | .v d :: r => (argS env r).map (.val d :: ·)
  | .r i :: r => do let xs ← mutS env i; let t ← argS env r; some (.par xs :: t)
def putBack : List Nat → List (List D) → Env → Option Env
  | [], [], env => some env
  | i :: is, xs :: r, env => putBack is r (setM env i xs)
  | _, _, _ => none
def permA {α : Type} (xs : List α) : List Nat → Option (List α)
  | [] => some []
  | i :: is => do let x ← xs[i]?; let r ← permA xs is; some (x :: r)
/-- what a field of an object holds -/
def fldD : List PySem.Str → List D → PySem.Str → Option D
  | k :: ks, x :: xs, f => if k = f then some x else fldD ks xs f
  | _, _, _ => none
abbrev FT := PySem.Str → List Sl → Option (D × List (List D))
def ownkS (F : FT) (c m g : PySem.Str) : D → List Nat → Option (List Sl) → Option D
  | .obj c' ks xs, rs, some ss => if c' = c ∧ m ∉ ks ∧ rs.isEmpty = true then (F g (.val (.obj c' ks xs) :: ss)).bind fun p => if p.2.isEmpty then some p.1 else none else none
  | _, _, _ => none
/-- what an own __len__ tells -/
def lnoI : D × List (List D) → Option Int
  | (.int n, []) => if decide (0 ≤ n) && wi 62 n then some n else none
  | _ => none
def setJ (xs : List D) (k : Int) (d : D) : Option (List D) := (ixN xs.length k).map fun j => xs.set j d

def compL (el : Env → Option (D × Env)) (cd : Env → Option (Bool × Env)) (tg : Tg) (own : List Nat) : List D → Env → Option (List D × Env)
  | [], env => some ([], env)
  | x :: xs, env => do
    let e1 ← bindT tg x (wipeE env own)
    let (b, e2) ← cd e1
    if b then do
      let (d, e3) ← el e2
      let (ds, e4) ← compL el cd tg own xs (backE env e3 own)
      some (d :: ds, e4)
    else compL el cd tg own xs (backE env e2 own)

mutual
def evE (F : FT) : Ex → Env → Option (D × Env)
  | .var i, env =>
    match env[i]? with
    | some (some (.val d)) => some (d, env)
    | some (some (.own xs)) => some (.lst xs, env.set i (some (.val (.lst xs))))
    | _ => none
  | .con d, env => some (d, env)
  | .glo x, env => do
    let (d, _) ← F x []
    some (d, env)
  | .ixv i e, env => do
    let _ ← peek env i
    let (k, e1) ← evE F e env
    let d ← peek e1 i
    let r ← opIx d k
    some (r, e1)
  | .lenv i, env => do
    let d ← peek env i
    let r ← opF .len [d]
    some (r, env)
  | .bin o a b, env => do
    let (x, e1) ← evE F a env
    let (y, e2) ← evE F b e1
    let r ← opB o x y
    some (r, e2)
  | .neg a, env => do
    let (x, e1) ← evE F a env
    match x with
    | .int i => some (.int (-i), e1)
    | _ => none
  | .cmp o a b, env => do
    let (x, e1) ← evE F a env
    let (y, e2) ← evE F b e1
    let r ← opC o x y
    some (.bl r, e2)
  | .vand a b, env => do
    let (x, e1) ← evE F a env
    match x with
    | .bl true => evE F b e1
    | .bl false => some (.bl false, e1)
    | _ => none
  | .vor a b, env => do
    let (x, e1) ← evE F a env
    match x with
    | .bl true => some (.bl true, e1)
    | .bl false => evE F b e1
    | _ => none
  | .vnot a, env => do
    let (x, e1) ← evE F a env
    match x with
    | .bl b => some (.bl (!b), e1)
    | _ => none
  | .ite c a b, env => do
    let (k, e1) ← evT F c env
    if k then evE F a e1 else evE F b e1
  | .tup es, env => do
    let (xs, e1) ← evL F es env
    if xs.length ≤ lim then some (.tup xs, e1) else none
  | .lst es, env => do
    let (xs, e1) ← evL F es env
    if xs.length ≤ lim then some (.lst xs, e1) else none
  | .ix a i, env => do
    let (x, e1) ← evE F a env
    let (y, e2) ← evE F i e1
    let r ← opIx x y
    some (r, e2)
  | .slc a lo hi, env => do
    let (x, e1) ← evE F a env
    let (l, e2) ← evO F lo e1
    let (h, e3) ← evO F hi e2
    let r ← opSl x l h
    some (r, e3)
  | .rev a, env => do
    let (x, e1) ← evE F a env
    match x with
    | .tup xs => some (.tup xs.reverse, e1)
    | _ => none
  | .call f pm es, env => do
    let (as, e1) ← evA F es env
    let as ← permA as pm
    if (refs as).Nodup then do
      let ss ← argS e1 as
      let (d, outs) ← F f ss
      let e2 ← putBack (refs as) outs e1
      some (d, e2)
    else none
  | .calln f g es, env => do
    let (ds, e1) ← evL F es env
    let (d, os) ← F g (ds.map Sl.val)
    match d, os with
    | .lst xs, [] => do
      let (r, outs) ← F f [.par xs]
      match outs with
      | [_] => some (r, e1)
      | _ => none
    | _, _ => none
  | .lrng e, env => do
    let (x, e1) ← evE F e env
    match x with
    | .int n => if wi 19 n then some (.lst (ran n.toNat), e1) else none
    | _ => none
  | .blt f es, env => do
    let (xs, e1) ← evL F es env
    let r ← opF f xs
    some (r, e1)
  | .comp w src tg cd el own, env => do
    let (xs, e1) ← evL F src env
    let its ← walk w xs
    if its.length ≤ lim && own.all (fun i => (mutS e1 i).isNone) then do
      let (ds, e2) ← compL (fun e => evE F el e) (fun e => evT F cd e) tg own its e1
      some (.lst ds, e2)
    else none
  | .att cs e f, env => do
    let (x, e1) ← evE F e env
    match x with
    | .obj c ks xs => if decide (c ∈ cs) then (fldD ks xs f).map fun d => (d, e1) else none
    | _ => none
  | .sg f, env =>
    match env[0]? with
    | some (some Sl.slf) => (F "" [.val (.str f)]).map fun p => (p.1, env)
    | _ => none
  | .mk c es, env => do
    let (ds, e1) ← evL F es env
    let (r, os) ← F c (ds.map Sl.val)
    match r, os with
    | .obj c' ks xs, [] => if c' = c then some (.obj c' ks xs, e1) else none
    | _, _ => none
  | .mth (.own c m g) e es, env => do
    let (x, e1) ← evE F e env
    let (ds, e2) ← evL F es e1
    match x with
    | .obj c' ks xs =>
      if c' = c ∧ m ∉ ks then (F g (.val (.obj c' ks xs) :: ds.map Sl.val)).bind fun p => if p.2.isEmpty then some (p.1, e2) else none
      else none
    | _ => none
  | .mth (.ownk c m g) e es, env => do
    let (x, e1) ← evE F e env
    let (as, e2) ← evA F es e1
    let d ← ownkS F c m g x (refs as) (argS e2 as)
    some (d, e2)
  | .mth (.lno c g) e es, env => do
    let (x, e1) ← evE F e env
    match x with
    | .obj c' ks xs => if c' = c then ((F g [.val (.obj c' ks xs)]).bind lnoI).map fun n => (D.int n, e1) else none
    | _ => none
  | .mth m e es, env => do
    let (x, e1) ← evE F e env
    let (ds, e2) ← evL F es e1
    let r ← opM m x ds
    some (r, e2)
  | .fst es, env => do
    let (ds, e1) ← evL F es env
    let t ← catA PySem.Str.empty ds
    some (.str t, e1)
  | _, _ => none
def evT (F : FT) : Ex → Env → Option (Bool × Env)
  | .tnot a, env => do
    let (x, e1) ← evT F a env
    some (!x, e1)
  | .tand a b, env => do
    let (x, e1) ← evT F a env
    if x then evT F b e1 else some (false, e1)
  | .tor a b, env => do
    let (x, e1) ← evT F a env
    if x then some (true, e1) else evT F b e1
  | .tvar i, env => do
    let d ← peek env i
    let b ← tru d
    some (b, env)
  | .tval a, env => do
    let (x, e1) ← evE F a env
    let b ← tru x
    some (b, e1)
  | .tyes, env => some (true, env)
  | _, _ => none
def evL (F : FT) : Ex → Env → Option (List D × Env)
  | .nil, env => some ([], env)
  | .cons e es, env => do
    let (x, e1) ← evE F e env
    let (xs, e2) ← evL F es e1
    some (x :: xs, e2)
  | _, _ => none
def evA (F : FT) : Ex → Env → Option (List Ar × Env)
  | .nil, env => some ([], env)
  | .cons e es, env => do
    let (x, e1) ← evAr F e env
    let (xs, e2) ← evA F es e1
    some (x :: xs, e2)
  | _, _ => none
def evO (F : FT) : Ex → Env → Option (Option Int × Env)
  | .nil, env => some (none, env)
  | .tval e, env => do
    let (x, e1) ← evE F e env
    match x with
    | .int i => some (some i, e1)
    | _ => none
  | _, _ => none
def evAr (F : FT) : Ex → Env → Option (Ar × Env)
  | .ref i, env => do
    let _ ← mutS env i
    some (.r i, env)
  | .tval e, env => do
    let (x, e1) ← evE F e env
    some (.v x, e1)
  | _, _ => none
end

def whlN (c : Env → Option (Bool × Env)) (b : Env → Option (Fl × Env)) : Nat → Env → Option (Fl × Env)
  | 0, _ => none
  | n + 1, env => do
    let (k, e1) ← c env
    if k then do
      let (f, e2) ← b e1
      match f with
      | .nx => whlN c b n e2
      | .ct => whlN c b n e2
      | .bk => some (.nx, e2)
      | .rt d => some (.rt d, e2)
    else some (.nx, e1)
def forL (tg : Tg) (b : Env → Option (Fl × Env)) : List D → Env → Option (Fl × Env)
  | [], env => some (.nx, env)
  | x :: xs, env => do
    let e1 ← bindT tg x env
    let (f, e2) ← b e1
    match f with
    | .nx => forL tg b xs e2
    | .ct => forL tg b xs e2
    | .bk => some (.nx, e2)
    | .rt d => some (.rt d, e2)

def evS (F : FT) (fuel : Nat) : Sm → Env → Option (Fl × Env)
  | .nil, env => some (.nx, env)
  | .seq s r, env => do
    let (f, e1) ← evS F fuel s env
    match f with
    | .nx => evS F fuel r e1
    | f => some (f, e1)
  | .asg i e, env => do
    let (x, e1) ← evE F e env
    let e2 ← putS e1 i (.val x)
    some (.nx, e2)
  | .own i e, env => do
    let (x, e1) ← evE F e env
    match x with
    | .lst xs => do
      let e2 ← putS e1 i (.own xs)
      some (.nx, e2)
    | _ => none
  | .unp is e, env => do
    let (x, e1) ← evE F e env
    match x with
    | .tup xs => do
      let e2 ← unpS is xs e1
      some (.nx, e2)
    | _ => none
  | .par i j oi oj a b, env => do
    let (x, e1) ← evE F a env
    let (y, e2) ← evE F b e1
    let e3 ← (if oi then (match x with | .lst xs => putS e2 i (.own xs) | _ => none) else putS e2 i (.val x))
    let e4 ← (if oj then (match y with | .lst xs => putS e3 j (.own xs) | _ => none) else putS e3 j (.val y))
    some (.nx, e4)
  | .par3 i j k es, env => do
    let (xs, e1) ← evL F es env
    let e2 ← unpS [i, j, k] xs e1
    some (.nx, e2)
  | .app i e, env => do
    let _ ← mutS env i
    let (x, e1) ← evE F e env
    let xs ← mutS e1 i
    if xs.length < lim then some (.nx, setM e1 i (xs ++ [x])) else none
  | .seti i k e, env => do
    let (x, e1) ← evE F e env
    let _ ← mutS e1 i
    let (y, e2) ← evE F k e1
    match y with
    | .int k => do
      let xs ← mutS e2 i
      let ys ← setJ xs k x
      some (.nx, setM e2 i ys)
    | _ => none
  | .ret e, env => do
    let (x, e1) ← evE F e env
    some (.rt x, e1)
  | .retn, env => some (.rt .non, env)
  | .iff c t e, env => do
    let (k, e1) ← evT F c env
    if k then evS F fuel t e1 else evS F fuel e e1
  | .whl c b, env => whlN (fun e => evT F c e) (fun e => evS F fuel b e) fuel env
  | .for_ w src tg b, env => do
    let (xs, e1) ← evL F src env
    let its ← walk w xs
    if its.length ≤ lim then forL tg (fun e => evS F fuel b e) its e1 else none
  | .brk, env => some (.bk, env)
  | .cnt, env => some (.ct, env)
  | .pas, env => some (.nx, env)
  | .exp e, env => do
    let (_, e1) ← evE F e env
    some (.nx, e1)
  | .never, _ => none
  | .sset _ _, _ => none

structure FDef where
  ps : List PySem.Str
  ns : List PySem.Str
  body : Sm
  cl : Option PySem.Str
/-- the calls, with the fields of the object that is being made -/
def sfF (F : FT) (ks : List PySem.Str) (xs : List D) : FT := fun n ss =>
  if n = ("" : PySem.Str) then
    match ss with
    | [.val (.str f)] => (fldD ks xs f).map fun d => (d, [])
    | _ => none
  else F n ss
/-- an object's making -/
def evM (F : FT) (fuel : Nat) : Sm → Env → List PySem.Str → List D → Option (List PySem.Str × List D)
  | .nil, _, ks, xs => some (ks, xs)
  | .seq (.sset f e) r, env, ks, xs => do
    let (d, e1) ← evE (sfF F ks xs) e env
    match e1 with
    | some .slf :: _ => if f ∈ ks then none else evM F fuel r e1 (ks ++ [f]) (xs ++ [d])
    | _ => none
  | .seq s r, env, ks, xs => do
    let (fl, e1) ← evS (sfF F ks xs) fuel s env
    match fl with
    | .nx => evM F fuel r e1 ks xs
    | _ => none
  | _, _, _, _ => none
def outsOf : List Sl → Env → Option (List (List D))
  | [], _ => some []
  | .par _ :: r, some (.par xs) :: e => (outsOf r e).map (xs :: ·)
  | .par _ :: _, _ => none
  | _ :: r, _ :: e => outsOf r e
  | _ :: _, [] => none
def evD (F : FT) (fuel : Nat) (d : FDef) (ss : List Sl) : Option (D × List (List D)) :=
  match d.cl with
  | some c =>
    if ss.length + 1 = d.ps.length then
      (evM F fuel d.body (some .slf :: (ss.map some ++ List.replicate (d.ns.length - ss.length - 1) none)) [] []).map fun p => (D.obj c p.1 p.2, [])
    else none
  | none =>
    if ss.length = d.ps.length then do
      let (f, e) ← evS F fuel d.body (ss.map some ++ List.replicate (d.ns.length - ss.length) none)
      let outs ← outsOf ss e
      match f with
      | .rt x => some (x, outs)
      | .nx => some (.non, outs)
      | _ => none
    else none
/-- the defs of a text, one above the other -/
def evF (T : List (PySem.Str × FDef)) (fuel : Nat) : Nat → FT
  | 0 => fun _ _ => none
  | n + 1 => fun f ss => match T.lookup f with
    | some d => evD (evF T fuel n) fuel d ss
    | none => none
end Mn

namespace Mn
open PySem L2

/-! ### data in the abstract heap -/
/-- the script's list -/
def FzL (K : PySem.W.Frag) (H : Hp) (a : Addr) (xs : List V) : Prop := (∃ o, H a = some (.frz o (.lst xs))) ∨ ∃ o its n, List.lookup a K = some o ∧ o.cls = Value.type "list" ∧ o.dict = none ∧ o.data = Data.seq its n ∧ its.size ≤ sizeLine ∧ Vals xs its.toList
theorem FzL.sq {K : PySem.W.Frag} {H : Hp} {a : Addr} {xs : List V} (h : FzL K H a xs) : SqL K H a xs := h.elim (fun ⟨o, h⟩ => .inl (.inr ⟨o, h⟩)) .inr
mutual
def Rep (K : PySem.W.Frag) (H : Hp) (B : Addr → Prop) : D → V → Prop
  | .non, v => v = .non
  | .bl b, v => v = .bl b
  | .int i, v => v = .int i
  | .str x, v => v = .str x
  | .tup xs, v => ∃ a vs, v = .ref a ∧ SqT K H a vs ∧ RepL K H B xs vs
  | .lst xs, v => ∃ a vs, v = .ref a ∧ H a = some (.lst vs) ∧ ¬ B a ∧ RepL K H B xs vs
  | .scr ns, v => ∃ a, v = .ref a ∧ FzL K H a (ns.map V.int)
  | .obj c ks xs, v => ∃ a Cc dx vs, v = .ref a ∧ PySem.W.nsIn K mainGlobals c = some (some (.ref Cc)) ∧ H a = some (.ins Cc dx (ks.zip vs)) ∧ ¬ B a ∧ ks.length = xs.length ∧ RepL K H B xs vs
  | .adr a, v => v = .ref a
def RepL (K : PySem.W.Frag) (H : Hp) (B : Addr → Prop) : List D → List V → Prop
  | [], vs => vs = []
  | x :: xs, vs => ∃ v r, vs = v :: r ∧ Rep K H B x v ∧ RepL K H B xs r
end
abbrev AP' := Addr → Prop
def ins (p : Addr) (B : AP') : AP' := fun a => a = p ∨ B a

structure Nx (H : Hp) (B M : AP') (H' : Hp) (B' M' : AP') : Prop where
  keep : ∀ a o, H a = some o → ¬ M a → H' a = some o
  b : ∀ a, B' a → B a ∨ H a = none
  m : ∀ a, M' a → M a ∨ H a = none
  al : ∀ a, H' a = none → H a = none
theorem Nx.refl (H : Hp) (B M : AP') : Nx H B M H B M := ⟨fun _ _ h _ => h, fun _ h => .inl h, fun _ h => .inl h, fun _ h => h⟩
theorem Nx.trans {H B M H1 B1 M1 H2 B2 M2} (x : Nx H B M H1 B1 M1) (y : Nx H1 B1 M1 H2 B2 M2) : Nx H B M H2 B2 M2 where
  keep := fun a o h nm => y.keep a o (x.keep a o h nm) fun z => (x.m a z).elim nm fun q => by rw [q] at h; cases h
  b := fun a h => (y.b a h).elim (x.b a) fun q => .inr (x.al a q)
  m := fun a h => (y.m a h).elim (x.m a) fun q => .inr (x.al a q)
  al := fun a h => x.al a (y.al a h)
/-- nothing that stood has changed -/
def Al (H H' : Hp) : Prop := ∀ a o, H a = some o → H' a = some o
theorem Al.refl (H : Hp) : Al H H := fun _ _ h => h
theorem Al.trans {H H1 H2 : Hp} (x : Al H H1) (y : Al H1 H2) : Al H H2 := fun a o h => y a o (x a o h)
theorem Al.new {H : Hp} {p : Addr} {o : HO} (h : H p = none) : Al H (upd H p o) := fun a u e => by
  rw [upd_ne (ne_of_none e h)]; exact e
theorem Al.nx {H H' : Hp} {B M : AP'} (x : Al H H') : Nx H B M H' B M :=
  ⟨fun a o h _ => x a o h, fun _ h => .inl h, fun _ h => .inl h, fun a h => by
    cases q : H a with
    | none => rfl
    | some o => rw [x a o q] at h; cases h⟩
theorem upd_none {H : Hp} {p a : Addr} {o : HO} (h : upd H p o a = none) : H a = none := by
  by_cases e : a = p
  · subst e; rw [upd_same] at h; cases h
  · rw [upd_ne e] at h; exact h

/-- what may be shunned: a list, an object -/
inductive MO | l (vs : List V) | i (C dx : Addr) (fs : List (PySem.Str × V))
def MO.ho : MO → HO
  | .l vs => .lst vs
  | .i C dx fs => .ins C dx fs
def BL (H : Hp) (B : AP') : Prop := ∀ a, B a → ∃ o : MO, H a = some o.ho
theorem BL.ntup {H : Hp} {B : AP'} {a : Addr} {vs : List V} (bl : BL H B) (h : H a = some (.tup vs)) : ¬ B a := fun z => by
  obtain ⟨ws, e⟩ := bl a z; rw [h] at e; cases ws <;> cases e
theorem BL.nfrz {H : Hp} {B : AP'} {a : Addr} {o : Obj} {u : HO} (bl : BL H B) (h : H a = some (.frz o u)) : ¬ B a := fun z => by
  obtain ⟨ws, e⟩ := bl a z; rw [h] at e; cases ws <;> cases e
theorem nxT {K : PySem.W.Frag} {H B M H' B' M'} {a : Addr} {vs : List V} (bl : BL H B) (mb : ∀ a, M a → B a) (n : Nx H B M H' B' M') (h : SqT K H a vs) : SqT K H' a vs := by
  rcases h with (h | ⟨o, h⟩) | h
  · exact .inl (.inl (n.keep a _ h fun z => bl.ntup h (mb a z)))
  · exact .inl (.inr ⟨o, n.keep a _ h fun z => bl.nfrz h (mb a z)⟩)
  · exact .inr h
theorem rdS {H : Hp} {a : Addr} {u : HO} (h : Rd H a u) : H a ≠ none := by
  rcases h with h | ⟨o, h⟩ <;> (rw [h]; exact fun z => nomatch z)
mutual
theorem Rep.nx {K : PySem.W.Frag} {H B M H' B' M'} (bl : BL H B) (mb : ∀ a, M a → B a) (n : Nx H B M H' B' M') : ∀ (d : D) (v : V), Rep K H B d v → Rep K H' B' d v
  | .non, _, h => h
  | .bl _, _, h => h
  | .int _, _, h => h
  | .str _, _, h => h
  | .tup xs, v, h => by
    obtain ⟨a, vs, e, q, r⟩ := h
    exact ⟨a, vs, e, nxT bl mb n q, RepL.nx bl mb n xs vs r⟩
  | .lst xs, v, h => by
    obtain ⟨a, vs, e, q, nb, r⟩ := h
    exact ⟨a, vs, e, n.keep a _ q fun z => nb (mb a z), fun z => (n.b a z).elim nb (fun w => by rw [w] at q; cases q), RepL.nx bl mb n xs vs r⟩
  | .scr ns, v, h => by
    obtain ⟨a, e, q⟩ := h
    refine ⟨a, e, ?_⟩
    rcases q with ⟨o, q⟩ | q
    · exact .inl ⟨o, n.keep a _ q fun z => bl.nfrz q (mb a z)⟩
    · exact .inr q
  | .obj c ks xs, v, h => by
    obtain ⟨a, Cc, dx, vs, e, g, q, nb, l, r⟩ := h
    exact ⟨a, Cc, dx, vs, e, g, n.keep a _ q fun z => nb (mb a z), fun z => (n.b a z).elim nb (fun w => by rw [w] at q; cases q), l, RepL.nx bl mb n xs vs r⟩
  | .adr _, _, h => h
theorem RepL.nx {K : PySem.W.Frag} {H B M H' B' M'} (bl : BL H B) (mb : ∀ a, M a → B a) (n : Nx H B M H' B' M') : ∀ (ds : List D) (vs : List V), RepL K H B ds vs → RepL K H' B' ds vs
  | [], _, h => h
  | d :: ds, vs, h => by
    obtain ⟨v, r, e, q, t⟩ := h
    exact ⟨v, r, e, Rep.nx bl mb n d v q, RepL.nx bl mb n ds r t⟩
end
/-- with fewer addresses shunned -/
theorem Rep.less {K : PySem.W.Frag} {H B B'} (bl : BL H B) (s : ∀ a, B' a → B a) {d : D} {v : V} (h : Rep K H B d v) : Rep K H B' d v :=
  Rep.nx (M := fun _ => False) (M' := fun _ => False) bl (fun _ z => z.elim) ⟨fun _ _ h _ => h, fun a h => .inl (s a h), fun _ h => .inl h, fun _ h => h⟩ d v h
theorem RepL.less {K : PySem.W.Frag} {H B B'} (bl : BL H B) (s : ∀ a, B' a → B a) {d : List D} {v : List V} (h : RepL K H B d v) : RepL K H B' d v :=
  RepL.nx (M := fun _ => False) (M' := fun _ => False) bl (fun _ z => z.elim) ⟨fun _ _ h _ => h, fun a h => .inl (s a h), fun _ h => .inl h, fun _ h => h⟩ d v h
/-- nothing stands at p: p may be shunned too -/
theorem Rep.more {K : PySem.W.Frag} {H B} {p : Addr} (bl : BL H B) (hp : H p = none) {d : D} {v : V} (h : Rep K H B d v) : Rep K H (ins p B) d v :=
  Rep.nx (M := fun _ => False) (M' := fun _ => False) bl (fun _ z => z.elim) ⟨fun _ _ h _ => h, fun a h => h.elim (fun e => .inr (e ▸ hp)) .inl, fun _ h => .inl h, fun _ h => h⟩ d v h
theorem Rep.al {K : PySem.W.Frag} {H H' B} (bl : BL H B) (x : Al H H') {d : D} {v : V} (h : Rep K H B d v) : Rep K H' B d v :=
  Rep.nx (M := fun _ => False) (M' := fun _ => False) bl (fun _ z => z.elim) x.nx d v h
theorem RepL.al {K : PySem.W.Frag} {H H' B} (bl : BL H B) (x : Al H H') {d : List D} {v : List V} (h : RepL K H B d v) : RepL K H' B d v :=
  RepL.nx (M := fun _ => False) (M' := fun _ => False) bl (fun _ z => z.elim) x.nx d v h
theorem BL.al {H H' B} (bl : BL H B) (x : Al H H') : BL H' B := fun a h => let ⟨vs, e⟩ := bl a h; ⟨vs, x a _ e⟩

section
variable {K : PySem.W.Frag} {H : Hp} {B : AP'}
theorem RepL.len : ∀ {ds : List D} {vs : List V}, RepL K H B ds vs → vs.length = ds.length
  | [], _, h => by rw [show _ = _ from h]; rfl
  | _ :: ds, _, h => by
    obtain ⟨v, r, rfl, _, t⟩ := h
    simp [RepL.len t]
theorem RepL.nil : RepL K H B [] [] := rfl
theorem RepL.cons {d : D} {ds : List D} {v : V} {vs : List V} (h : Rep K H B d v) (t : RepL K H B ds vs) : RepL K H B (d :: ds) (v :: vs) := ⟨v, vs, rfl, h, t⟩
theorem RepL.get : ∀ {ds : List D} {vs : List V} {i : Nat} {d : D}, RepL K H B ds vs → ds[i]? = some d → ∃ v, vs[i]? = some v ∧ Rep K H B d v
  | [], _, _, _, _, e => by simp at e
  | x :: xs, _, 0, d, h, e => by
    obtain ⟨v, r, rfl, q, _⟩ := h
    simp at e; subst e
    exact ⟨v, rfl, q⟩
  | x :: xs, _, i + 1, d, h, e => by
    obtain ⟨v, r, rfl, _, t⟩ := h
    obtain ⟨w, e1, q⟩ := RepL.get (i := i) t (by simpa using e)
    exact ⟨w, by simpa using e1, q⟩
theorem RepL.get' : ∀ {ds : List D} {vs : List V} {i : Nat} {v : V}, RepL K H B ds vs → vs[i]? = some v → ∃ d, ds[i]? = some d ∧ Rep K H B d v
  | [], _, _, _, h, e => by rw [show _ = _ from h] at e; simp at e
  | x :: xs, _, 0, d, h, e => by
    obtain ⟨v, r, rfl, q, _⟩ := h
    simp at e; subst e
    exact ⟨x, rfl, q⟩
  | x :: xs, _, i + 1, d, h, e => by
    obtain ⟨v, r, rfl, _, t⟩ := h
    obtain ⟨w, e1, q⟩ := RepL.get' (i := i) t (by simpa using e)
    exact ⟨w, by simpa using e1, q⟩
theorem RepL.set {x : D} {v : V} (hx : Rep K H B x v) : ∀ {ds : List D} {vs : List V} {i : Nat}, RepL K H B ds vs → RepL K H B (ds.set i x) (vs.set i v)
  | [], _, _, h => by rw [show _ = _ from h]; rfl
  | y :: ys, _, 0, h => by
    obtain ⟨w, r, rfl, _, t⟩ := h
    exact ⟨v, r, rfl, hx, t⟩
  | y :: ys, _, i + 1, h => by
    obtain ⟨w, r, rfl, q, t⟩ := h
    exact ⟨w, r.set i v, rfl, q, RepL.set hx t⟩
theorem RepL.app : ∀ {ds es : List D} {vs ws : List V}, RepL K H B ds vs → RepL K H B es ws → RepL K H B (ds ++ es) (vs ++ ws)
  | [], _, _, _, h, g => by rw [show _ = _ from h]; exact g
  | _ :: _, _, _, _, h, g => by
    obtain ⟨w, r, rfl, q, t⟩ := h
    exact ⟨w, _, rfl, q, RepL.app t g⟩
theorem RepL.drop : ∀ {ds : List D} {vs : List V} (n : Nat), RepL K H B ds vs → RepL K H B (ds.drop n) (vs.drop n)
  | _, _, 0, h => by simpa using h
  | [], _, _ + 1, h => by rw [show _ = _ from h]; rfl
  | _ :: _, _, n + 1, h => by
    obtain ⟨w, r, rfl, q, t⟩ := h
    exact RepL.drop n t
theorem RepL.take : ∀ {ds : List D} {vs : List V} (n : Nat), RepL K H B ds vs → RepL K H B (ds.take n) (vs.take n)
  | _, _, 0, h => by simpa using RepL.nil
  | [], _, _ + 1, h => by rw [show _ = _ from h]; rfl
  | _ :: _, _, n + 1, h => by
    obtain ⟨w, r, rfl, q, t⟩ := h
    exact ⟨w, _, rfl, q, RepL.take n t⟩
theorem RepL.rep {xs : List D} {vs : List V} (h : RepL K H B xs vs) : ∀ n : Nat, RepL K H B (List.replicate n xs).flatten (List.replicate n vs).flatten
  | 0 => rfl
  | n + 1 => by rw [List.replicate_succ, List.replicate_succ, List.flatten_cons, List.flatten_cons]; exact h.app (RepL.rep h n)
theorem RepL.emp {ds : List D} {vs : List V} (h : RepL K H B ds vs) : vs.isEmpty = ds.isEmpty := by
  have e := h.len
  cases ds <;> cases vs <;> simp_all
theorem RepL.intsD : ∀ {ds : List D} {vs : List V} {ns : List Int}, RepL K H B ds vs → intsD ds = some ns → vs = ns.map V.int
  | [], _, _, h, e => by cases e; exact h
  | .int i :: r, _, ns, h, e => by
    obtain ⟨v, t, rfl, q, g⟩ := h
    simp only [Mn.intsD, Option.map_eq_some_iff] at e
    obtain ⟨ms, e1, rfl⟩ := e
    rw [show v = V.int i from q, RepL.intsD g e1]; rfl
  | .non :: _, _, _, _, e => by simp [Mn.intsD] at e
  | .bl _ :: _, _, _, _, e => by simp [Mn.intsD] at e
  | .str _ :: _, _, _, _, e => by simp [Mn.intsD] at e
  | .tup _ :: _, _, _, _, e => by simp [Mn.intsD] at e
  | .lst _ :: _, _, _, _, e => by simp [Mn.intsD] at e
  | .scr _ :: _, _, _, _, e => by simp [Mn.intsD] at e
  | .obj _ _ _ :: _, _, _, _, e => by simp [Mn.intsD] at e
  | .adr _ :: _, _, _, _, e => by simp [Mn.intsD] at e
theorem RepL.boolsD : ∀ {ds : List D} {vs : List V} {ns : List Bool}, RepL K H B ds vs → boolsD ds = some ns → vs = ns.map V.bl
  | [], _, _, h, e => by cases e; exact h
  | .bl i :: r, _, ns, h, e => by
    obtain ⟨v, t, rfl, q, g⟩ := h
    simp only [Mn.boolsD, Option.map_eq_some_iff] at e
    obtain ⟨ms, e1, rfl⟩ := e
    rw [show v = V.bl i from q, RepL.boolsD g e1]; rfl
  | .non :: _, _, _, _, e => by simp [Mn.boolsD] at e
  | .int _ :: _, _, _, _, e => by simp [Mn.boolsD] at e
  | .str _ :: _, _, _, _, e => by simp [Mn.boolsD] at e
  | .tup _ :: _, _, _, _, e => by simp [Mn.boolsD] at e
  | .lst _ :: _, _, _, _, e => by simp [Mn.boolsD] at e
  | .scr _ :: _, _, _, _, e => by simp [Mn.boolsD] at e
  | .obj _ _ _ :: _, _, _, _, e => by simp [Mn.boolsD] at e
  | .adr _ :: _, _, _, _, e => by simp [Mn.boolsD] at e
theorem dpInts : ∀ ns : List Int, DpAll K H (ns.map V.int) (ns.map PyData.int)
  | [] => .nil
  | i :: r => .cons (.int i) (dpInts r)
mutual
theorem Rep.dp : ∀ (d : D) (v : V), nob d = true → Rep K H B d v → Dp K H v (toP d)
  | .non, _, _, h => by cases h; exact .non
  | .bl _, _, _, h => by cases h; exact .bl _
  | .int _, _, _, h => by cases h; exact .int _
  | .str _, _, _, h => by cases h; exact .str _
  | .tup xs, v, nb, h => by
    obtain ⟨a, vs, rfl, q, r⟩ := h
    exact .tup q (RepL.dp xs vs nb r)
  | .lst xs, v, nb, h => by
    obtain ⟨a, vs, rfl, q, _, r⟩ := h
    exact .lst (.inl (.inl q)) (RepL.dp xs vs nb r)
  | .scr ns, v, _, h => by
    obtain ⟨a, rfl, q⟩ := h
    exact .lst q.sq (dpInts ns)
  | .obj _ _ _, _, nb, _ => by cases nb
  | .adr _, _, nb, _ => by cases nb
theorem RepL.dp : ∀ (d : List D) (v : List V), nobL d = true → RepL K H B d v → DpAll K H v (toPL d)
  | [], _, _, h => by rw [show _ = _ from h]; exact .nil
  | x :: xs, _, nb, h => by
    obtain ⟨v, t, rfl, q, g⟩ := h
    have nb' : (nob x && nobL xs) = true := nb
    rw [Bool.and_eq_true] at nb'
    exact .cons (Rep.dp x v nb'.1 q) (RepL.dp xs t nb'.2 g)
end
end

/-! ### the state of a def's frame -/
structure Ctx where
  K : PySem.W.Frag
  P : Nat → Option Addr
  B0 : AP'
  F : FT
  fuel : Nat
  K0 : Addr → Option (Addr × Addr × List (PySem.Str × V)) := fun _ => none
  X0 : List (D × V) := []
structure Sim (C : Ctx) (H : Hp) (B M : AP') (σ : L2.St) (env : Env) : Prop where
  len : σ.length = env.length
  bl : BL H B
  mb : ∀ a, M a → B a
  lo : ∀ a, C.B0 a → B a
  val : ∀ (i : Nat) (d : D), env[i]? = some (some (Sl.val d)) → ∃ v, σ[i]? = some (some v) ∧ Rep C.K H B d v
  own : ∀ (i : Nat) (xs : List D), env[i]? = some (some (Sl.own xs)) → ∃ a vs, σ[i]? = some (some (.ref a)) ∧ H a = some (.lst vs) ∧ RepL C.K H B xs vs ∧ M a ∧ ¬ C.B0 a
  par : ∀ (i : Nat) (xs : List D), env[i]? = some (some (Sl.par xs)) → ∃ a vs, C.P i = some a ∧ σ[i]? = some (some (.ref a)) ∧ H a = some (.lst vs) ∧ RepL C.K H B xs vs ∧ M a
  inj : ∀ (i j : Nat) (xs ys : List D) (a : Addr), mutS env i = some xs → mutS env j = some ys → σ[i]? = some (some (.ref a)) → σ[j]? = some (some (.ref a)) → i = j
  kp : ∀ a o, C.K0 a = some o → H a = some (.ins o.1 o.2.1 o.2.2) ∧ ¬ M a
  ex : ∀ d v, (d, v) ∈ C.X0 → Rep C.K H B d v
  sl : ∀ i, env[i]? = some (some Sl.slf) → ∃ a, C.P i = some a ∧ σ[i]? = some (some (.ref a))

variable {C : Ctx} {H H' : Hp} {B M B' M' : AP'} {σ : L2.St} {env : Env}
theorem Sim.mut (s : Sim C H B M σ env) {i : Nat} {xs : List D} (h : mutS env i = some xs) : ∃ a vs, σ[i]? = some (some (.ref a)) ∧ H a = some (.lst vs) ∧ RepL C.K H B xs vs ∧ M a := by
  unfold mutS at h
  split at h
  · cases h
    obtain ⟨a, vs, h1, h2, h3, h4, _⟩ := s.own i _ (by assumption)
    exact ⟨a, vs, h1, h2, h3, h4⟩
  · cases h
    obtain ⟨a, vs, _, h1, h2, h3, h4⟩ := s.par i _ (by assumption)
    exact ⟨a, vs, h1, h2, h3, h4⟩
  · cases h
/-- nothing of what the frame owns has changed -/
theorem Sim.al (s : Sim C H B M σ env) (x : Al H H') : Sim C H' B M σ env where
  len := s.len
  bl := s.bl.al x
  mb := s.mb
  lo := s.lo
  val := fun i d h => let ⟨v, e, r⟩ := s.val i d h; ⟨v, e, r.al s.bl x⟩
  own := fun i xs h => let ⟨a, vs, e, q, r, m, n⟩ := s.own i xs h; ⟨a, vs, e, x a _ q, r.al s.bl x, m, n⟩
  par := fun i xs h => let ⟨a, vs, p, e, q, r, m⟩ := s.par i xs h; ⟨a, vs, p, e, x a _ q, r.al s.bl x, m⟩
  inj := s.inj
  kp := fun a o h => ⟨x a _ (s.kp a o h).1, (s.kp a o h).2⟩
  ex := fun d v h => (s.ex d v h).al s.bl x
  sl := s.sl
theorem BL.ins {p : Addr} {vs : List V} (bl : BL H B) (h : H p = some (.lst vs)) : BL H (ins p B) := fun a z => z.elim (fun e => ⟨.l vs, e ▸ h⟩) (bl a)
/-- a new list laid at p, and shunned -/
theorem RepL.lay {K : PySem.W.Frag} {p : Addr} {vs : List V} (bl : BL H B) (hp : H p = none) {ds : List D} {ws : List V} (r : RepL K H B ds ws) : RepL K (upd H p (.lst vs)) (Mn.ins p B) ds ws :=
  RepL.nx (M := fun _ => False) (M' := fun _ => False) bl (fun _ z => z.elim) ⟨fun a o h _ => Al.new hp a o h, fun a h => h.elim (fun e => .inr (e ▸ hp)) .inl, fun _ h => .inl h, fun a h => upd_none h⟩ ds ws r
theorem Rep.lay {K : PySem.W.Frag} {p : Addr} {vs : List V} (bl : BL H B) (hp : H p = none) {ds : D} {ws : V} (r : Rep K H B ds ws) : Rep K (upd H p (.lst vs)) (Mn.ins p B) ds ws :=
  Rep.nx (M := fun _ => False) (M' := fun _ => False) bl (fun _ z => z.elim) ⟨fun a o h _ => Al.new hp a o h, fun a h => h.elim (fun e => .inr (e ▸ hp)) .inl, fun _ h => .inl h, fun a h => upd_none h⟩ ds ws r
theorem Sim.lay (s : Sim C H B M σ env) {p : Addr} {vs : List V} (hp : H p = none) : Sim C (upd H p (.lst vs)) (ins p B) M σ env where
  len := s.len
  bl := (s.bl.al (Al.new hp)).ins upd_same
  mb := fun a z => .inr (s.mb a z)
  lo := fun a z => .inr (s.lo a z)
  val := fun i d h => let ⟨v, e, r⟩ := s.val i d h; ⟨v, e, r.lay s.bl hp⟩
  own := fun i xs h => let ⟨a, vs, e, q, r, m, n⟩ := s.own i xs h; ⟨a, vs, e, Al.new hp a _ q, r.lay s.bl hp, m, n⟩
  par := fun i xs h => let ⟨a, vs, p', e, q, r, m⟩ := s.par i xs h; ⟨a, vs, p', e, Al.new hp a _ q, r.lay s.bl hp, m⟩
  inj := s.inj
  kp := fun a o h => ⟨Al.new hp a _ (s.kp a o h).1, (s.kp a o h).2⟩
  ex := fun d v h => (s.ex d v h).lay s.bl hp
  sl := s.sl
/-- p is no longer shunned -/
theorem Sim.less (s : Sim C H B M σ env) (sub : ∀ a, B' a → B a) (mb : ∀ a, M a → B' a) (lo : ∀ a, C.B0 a → B' a) : Sim C H B' M σ env where
  len := s.len
  bl := fun a z => s.bl a (sub a z)
  mb := mb
  lo := lo
  val := fun i d h => let ⟨v, e, r⟩ := s.val i d h; ⟨v, e, r.less s.bl sub⟩
  own := fun i xs h => let ⟨a, vs, e, q, r, m, n⟩ := s.own i xs h; ⟨a, vs, e, q, r.less s.bl sub, m, n⟩
  par := fun i xs h => let ⟨a, vs, p', e, q, r, m⟩ := s.par i xs h; ⟨a, vs, p', e, q, r.less s.bl sub, m⟩
  inj := s.inj
  kp := s.kp
  ex := fun d v h => (s.ex d v h).less s.bl sub
  sl := s.sl

/-! ### what a piece of code asks -/
def tE (C : Ctx) (x : Ex) : TE := fun σ H Q => ∃ B M env d env', Sim C H B M σ env ∧ evE C.F x env = some (d, env') ∧
  ∀ v H' B' M', Sim C H' B' M' σ env' → Rep C.K H' B' d v → Nx H B M H' B' M' → Q v H'
def tT (C : Ctx) (x : Ex) : TT := fun σ H Q => ∃ B M env d env', Sim C H B M σ env ∧ evT C.F x env = some (d, env') ∧
  ∀ H' B' M', Sim C H' B' M' σ env' → Nx H B M H' B' M' → Q d H'
def tL (C : Ctx) (x : Ex) : TA := fun σ H Q => ∃ B M env d env', Sim C H B M σ env ∧ evL C.F x env = some (d, env') ∧
  ∀ v H' B' M', Sim C H' B' M' σ env' → RepL C.K H' B' d v → Nx H B M H' B' M' → Q v H'
/-- a new list that may be owned -/
def tN (C : Ctx) (x : Ex) : TE := fun σ H Q => ∃ B M env xs env', Sim C H B M σ env ∧ evE C.F x env = some (.lst xs, env') ∧
  ∀ p vs H' B' M', Sim C H' (ins p B') M' σ env' → H' p = some (.lst vs) → RepL C.K H' (ins p B') xs vs → ¬ B' p → (∀ a, M' a → B' a) → (∀ a, C.B0 a → B' a) → H p = none → Nx H B M H' B' M' → Q (.ref p) H'
theorem _root_.L2.PE.imp {X : Cx} {e : Expr} {t t' : TE} (h : PE X e t) (i : ∀ σ H Q, t' σ H Q → t σ H Q) : PE X e t' := ⟨fun pins s σ H Q I q => h.run pins s σ H Q I (i σ H Q q)⟩
theorem _root_.L2.PT.imp {X : Cx} {e : Expr} {t t' : TT} (h : PT X e t) (i : ∀ σ H Q, t' σ H Q → t σ H Q) : PT X e t' := ⟨fun pins s σ H Q I q => h.run pins s σ H Q I (i σ H Q q)⟩
theorem _root_.L2.PW.imp {X : Cx} {e : Expr} {t t' : TT} (h : PW X e t) (i : ∀ σ H Q, t' σ H Q → t σ H Q) : PW X e t' := ⟨fun w pins s σ H Q I q => h.run w pins s σ H Q I (i σ H Q q)⟩
theorem _root_.L2.PA.imp {X : Cx} {e : List Expr} {t t' : TA} (h : PA X e t) (i : ∀ σ H Q, t' σ H Q → t σ H Q) : PA X e t' := ⟨fun p pins s σ H Q I q => h.run p pins s σ H Q I (i σ H Q q)⟩
theorem _root_.L2.PS.imp {X : Cx} {e : Stmt} {t t' : TS} (h : PS X e t) (i : ∀ D σ H, t' D σ H → t D σ H) : PS X e t' := ⟨fun pins s σ H D I q => h.run pins s σ H D I (i D σ H q)⟩
theorem _root_.L2.PSs.imp {X : Cx} {e : List Stmt} {t t' : TS} (h : PSs X e t) (i : ∀ D σ H, t' D σ H → t D σ H) : PSs X e t' := ⟨fun pins s σ H D I q => h.run pins s σ H D I (i D σ H q)⟩
/-- the new list as a datum -/
theorem nE {X : Cx} {e : Expr} {x : Ex} (hl : ∀ env d env', evE C.F x env = some (d, env') → ∃ xs, d = .lst xs) (h : PE X e (tN C x)) : PE X e (tE C x) := h.imp fun σ H Q q => by
  obtain ⟨B, M, env, d, env', s, ev, q⟩ := q
  obtain ⟨xs, rfl⟩ := hl _ _ _ ev
  refine ⟨B, M, env, xs, env', s, ev, fun p vs H' B' M' s' hp r nb mb lo _ n => ?_⟩
  refine q _ _ B' M' (s'.less (fun a z => .inr z) mb lo) ⟨p, vs, rfl, hp, nb, r.less s'.bl fun a z => .inr z⟩ n
end Mn

/-! What a def promises where no repr is under way around it: as FnOk, but for calls with `quiet` surroundings alone. -/
namespace Mn
open PySem PySem.Spec PyProof.Rows L2

/-- no repr is under way -/
def Qt (A : Around) : Prop := A.guards = some []
theorem Qt.deeper {A : Around} (h : Qt A) (e : PySem.Env) : Qt (A.deeper e) := h
theorem Qt.top : Qt callerA := rfl
section
variable {P : Program} {w : World} {K : PySem.W.Frag} {mg : PySem.Str → Option Value} {base : Heap}
structure FnG (P : Program) (w : World) (K : PySem.W.Frag) (mg : PySem.Str → Option Value) (base : Heap) (lv : Nat) (fa : Addr) (fd : FuncData) (ps : List PySem.Str) (sp : Sp) : Prop where
  ln : ∀ vs H Q E, sp vs H Q E → vs.length = ps.length
  go : ∀ (A : Around) (out : List PySem.Env) (s : Shared) (H : Hp) (ar : Args) (us : List Value) (vs : List V) (Q : VK) (E : XK),
    Qt A → Room lv A → Env0 P w K mg base A out s H → BindsTo s fd ar (ps.zip us) → Vals vs us → sp vs H Q E → codeAny (model P w) A (.call (.ref fa) ar) (CR CX0 out P w H s Q E) s
/-- a def by its body -/
theorem funG {x q : PySem.Str} {st : Stmt} {fa : Addr} {fd : FuncData} {N ps : List PySem.Str} {lv : Nat} {sp : Sp} (F : Fun K x q st fa fd) (S : FnScope N ps (defScope st)) (ln : ∀ vs H Q E, sp vs H Q E → vs.length = ps.length)
    (body : ∀ (cd : Value) (A : Around) (out : List PySem.Env) (s : Shared) (H : Hp) (vs : List V) (Q : VK) (E : XK), Qt A → Room lv (A.deeper (envOfC q (defScope st) s.heap.objs.size fa cd)) → sp vs H Q E →
      ∃ t, PSs (cxOf CX0 P w K mg base N q (defScope st) fa cd A out s H E).nox (defBody st) t ∧ t { nx := fun _ H' => Q .non H', rt := Q } (L2.start N vs) H) : FnG P w K mg base (lv + 1) fa fd ps sp := by
  obtain ⟨oc, od, kV, doc, pm, an, cdv, ct, osl, rfl, lk, hcd⟩ := F.ex
  constructor
  · exact ln
  intro A out s H ar us vs Q E qt rm en bd rv h
  have hn := ln _ _ _ _ h
  have inK : K.In s.heap := en.mod.kin.keeps (fun b o e => (en.bs b o e).left)
  have nl : s.heap.NoLimit := en.mod.nolimit.keeps (fun b o e => (en.bs b o e).left)
  have kinds : ∀ y ∈ ps.zip us, (defScope st).names.lookup y.1 = some .local ∨ ((defScope st).names.lookup y.1 = some .cell ∧ ((cellsFrom (s.heap.objs.size + 1) (defScope st).names []).lookup y.1).isSome = true) := by
    rintro ⟨z, v⟩ hz
    cases S.par z (List.of_mem_zip hz).left with
    | inl g => exact Or.inl g
    | inr g => exact Or.inr ⟨g, PySem.W.cellsFrom_some _ _ _ (Or.inl g)⟩
  apply codeAny_call_function rm.depth (inK _ _ lk) rfl S.co S.gen rfl (PySem.W.codeRec_of inK hcd)
  apply bd
  apply wpAny_newFunctionEnv_cells S.kind kinds
  rintro _ rfl s1 ic
  constructor
  · exact nl.keeps ic.toInCall.keep
  apply codeAny_func
  obtain ⟨t, pt, ht⟩ := body cdv A out s H vs Q E qt (rm.deeper _) h
  have J : Inv (cxOf CX0 P w K mg base N q (defScope st) fa cdv A out s H E) [] (L2.start N vs) H s1 := L2.inv_start S rm.hd en hn rv ic
  apply wpAny_mono (pt.nox.run [] s1 _ H _ J ht)
  · intro fl s' hs
    have ende : ∀ {τ : L2.St} {H2 : Hp} {v : V} {u : Value}, Inv (cxOf CX0 P w K mg base N q (defScope st) fa cdv A out s H E) [] τ H2 s' → RelV v u → Q v H2 → CE out P w H s Q u s' := by
      intro τ H2 v u I2 rr qq
      exact ⟨v, H2, I2.os, I2.bare, I2.base, I2.hok, rr, qq⟩
    cases fl
    case ret u => obtain ⟨v, τ, H2, I2, rr, qq⟩ := hs; exact ende I2 rr qq
    case next => obtain ⟨τ, H2, I2, qq⟩ := hs; exact ende (v := .non) (u := .none) I2 rfl qq
    case brk => obtain ⟨_, _, _, z⟩ := hs; exact z.elim
    case cont => obtain ⟨_, _, _, z⟩ := hs; exact z.elim
  · intro e s' hs; exact hs
/-- the law's own call, at the top -/
theorem law_callG {mb : PySem.Str → Option Value} {lv : Nat} {fa a : Addr} {fd : FuncData} {x : PySem.Str} {sp : Sp} {s₁ : Shared} {vs : List Value} {ns : List Int}
    (inK : K.In s₁.heap) (gn : s₁.heap.Ns mainGlobals mg) (bn : s₁.heap.Ns builtinsNs mb) (bb : ∀ y : PySem.Str, y ≠ "__name__" → mb y = bootBuiltins y) (nl : s₁.heap.NoLimit) (g0 : s₁.gens = #[])
    (ea : s₁.heap.get? a = some { cls := .type "list", data := .seq vs.toArray }) (ia : IntsAre vs ns) (ln : ns.length ≤ sizeLine) (rm : Room lv callerA)
    (F : ∀ base : Heap, K.In base → base.Ns mainGlobals mg → FnG P w K mg base lv fa fd [x] sp) (bd : ∀ (s : Shared) (u : Value), BindsTo s fd ⟨[u], []⟩ [(x, u)])
    (hs : ∀ H : Hp, Only H → SqL K H a (ns.map V.int) → sp [.ref a] H (fun v _ => v = .bl true) E0) :
    codeAny (model P w) callerA (.call (.ref fa) ⟨[.ref a], []⟩) (fun r s' => r = .ok (.ret (.bool true)) ∧ OldK s₁.heap s'.heap ∧ s'.os = s₁.os ∧ AllBare s'.gens) s₁ := by
  have rv := vals_ints ia
  have vl := ia.length
  have main : ∀ H : Hp, Only H → SqL K H a (ns.map V.int) → HOk P w H s₁.heap → (∀ b, H b ≠ none → b = a) → (H a ≠ none → K.lookup a = none) →
      codeAny (model P w) callerA (.call (.ref fa) ⟨[.ref a], []⟩) (fun r s' => r = .ok (.ret (.bool true)) ∧ OldK s₁.heap s'.heap ∧ s'.os = s₁.os ∧ AllBare s'.gens) s₁ := by
    intro H on sq ok one noK
    have hid : ∀ {b : Addr} {o : Obj}, s₁.heap.get? b = some o → H b = none → (hidT s₁.heap H).get? b = some o := hidT_get
    have none_of : ∀ {b : Addr}, b ≠ a → H b = none := fun {b} ne => Classical.byContradiction fun z => ne (one b z)
    have ns_of : ∀ {b : Addr} {m : PySem.Str → Option Value}, s₁.heap.Ns b m → (hidT s₁.heap H).Ns b m := by
      rintro b m ⟨o, es, ep, e, d, r⟩
      refine ⟨o, es, ep, hid e (none_of ?_), d, r⟩
      rintro rfl
      rw [ea] at e
      cases e
      cases d
    have inH : K.In (hidT s₁.heap H) := by
      intro b o e
      apply hid (inK b o e)
      by_cases ne : b = a
      · subst ne
        refine Classical.byContradiction fun z => ?_
        rw [noK z] at e
        cases e
      · exact none_of ne
    obtain ⟨mc, l1, l2⟩ := nl
    have M : L2.Mod K mg (hidT s₁.heap H) := ⟨inH, ns_of gn, ⟨mb, ns_of bn, bb⟩, ⟨mc, ns_of l1, l2⟩⟩
    have en : Env0 P w K mg (hidT s₁.heap H) callerA [] s₁ H :=
      { frames := rfl, mod := M, bs := fun b o e => of_hidT e, bsz := Nat.le_of_eq (hidT_size _ _), funs := trivial, frf := (fun b z => absurd (show b ∈ ([] : List Addr) from z) List.not_mem_nil), hok := ok, bare := AllBare.of_eq g0 }
    have run := (F _ inH (ns_of gn)).go callerA [] s₁ H ⟨[.ref a], []⟩ [.ref a] [.ref a] _ _ Qt.top rm en (bd s₁ (.ref a)) (.cons rfl .nil) (hs H on sq)
    refine codeAny_mono run ?_
    intro r s' h
    match r, h with
    | .error e, h => exact False.elim h
    | .ok .next, h => exact False.elim h
    | .ok .brk, h => exact False.elim h
    | .ok .cont, h => exact False.elim h
    | .ok (.ret u), h =>
      obtain ⟨v, H2, os, bare, un, ok2, ru, hv⟩ := h
      have hv : v = .bl true := hv
      subst hv
      obtain rfl : u = Value.bool true := ru
      refine ⟨rfl, OldK.of_keep ?_, os, bare⟩
      intro b o e
      by_cases z : H b = none
      · exact un.keep b o e z (fun m => absurd (show b ∈ ([] : List Addr) from m) List.not_mem_nil) (fun m => absurd (show b ∈ ([] : List Addr) from m) List.not_mem_nil)
      · rcases on b with y | ⟨ob, xs, y⟩
        · exact absurd y z
        · have y2 := un.frzs b ob _ y
          obtain ⟨k1, _⟩ := ok b _ y
          obtain ⟨k2, _⟩ := ok2 b _ y2
          rw [e] at k1
          cases k1
          exact k2
  cases lk : K.lookup a with
  | some o =>
    have e := inK a o lk
    rw [ea] at e
    cases e
    apply main (fun _ => none)
    · intro _; exact .inl rfl
    · exact .inr ⟨_, vs.toArray, _, lk, rfl, rfl, rfl, by rw [List.size_toArray, vl]; exact ln, by simpa using rv⟩
    · intro b u z; exact nomatch z
    · intro b z; exact absurd rfl z
    · intro z; exact absurd rfl z
  | none =>
    have at_a : ∀ {b : Addr} {u : HO}, (if b = a then some (HO.frz { cls := .type "list", data := .seq vs.toArray } (.lst (ns.map V.int))) else none) = some u → b = a ∧ u = HO.frz { cls := .type "list", data := .seq vs.toArray } (.lst (ns.map V.int)) := by
      intro b u z
      split at z
      · cases z; exact ⟨by assumption, rfl⟩
      · cases z
    apply main (fun b => if b = a then some (.frz { cls := .type "list", data := .seq vs.toArray } (.lst (ns.map V.int))) else none)
    · intro b
      by_cases z : b = a
      · exact .inr ⟨_, _, if_pos z⟩
      · exact .inl (if_neg z)
    · exact .inl (.inr ⟨_, if_pos rfl⟩)
    · intro b u z
      obtain ⟨rfl, rfl⟩ := at_a z
      exact ⟨ea, by rw [List.length_map]; exact ln, vs, _, rv, ea⟩
    · intro b z
      exact Classical.byContradiction fun y => z (if_neg y)
    · intro _; exact lk
/-- the end of a law's proof, from its promise -/
theorem walkG {l : PySem.W.OpenLaw} {n k : Nat} {q : Program} {loose : List PySem.Str} {XP : (PySem.Str → Option Value) → Heap → Prop} {YP : World → Heap → Prop} {d : DefRec} {KK : Params → PySem.W.Frag} {sp : World → Sp} {x : PySem.Str}
    (hn : l.most = some n) (hn2 : n ≤ sizeLine) (hdf : d.params.defaults = []) (hr : Room k callerA) (hY : ∀ (w : World) (h : Heap), YP w h → (KK w.params).In h)
    (F : ∀ (w : World) (mg : PySem.Str → Option Value) (fa : Addr) (h : Heap), (KK w.params).In h → h.Ns mainGlobals mg → mg d.name = some (.ref fa) →
      ∃ fd : FuncData, (∀ (s : Shared) (u : Value), BindsTo s fd ⟨[u], []⟩ [(x, u)]) ∧ ∀ base : Heap, (KK w.params).In base → base.Ns mainGlobals mg → FnG l.prog w (KK w.params) mg base k fa fd [x] (sp w))
    (hsp : ∀ (w : World) (H : Hp) (a : Addr) (ns : List Int), ns.length ≤ n → Only H → SqL (KK w.params) H a (ns.map V.int) → sp w [.ref a] H (fun v _ => v = .bl true) E0) :
    PySem.W.WalkO q loose XP YP l.row.toRowW d [] (fun f vs => PySem.call f vs) := by
  apply Att.attach_call hn hdf
  intro w s₀ s₁ mg mb fa o pm cd doc a vs ns G Y ho hd hcd hmg hobj hints hlen hg
  have inK := hY w _ Y
  obtain ⟨fd, bd, FF⟩ := F w mg fa _ inK G.T.g hmg
  exact law_callG inK G.T.g G.T.b G.T.builtins G.T.nolimit hg hobj hints (Nat.le_trans hlen hn2) hr FF bd (fun H on sq => hsp w H a ns hlen on sq)
end
section
variable {X : Cx} {lv : Nat} {fa : Addr} {fd : FuncData} {ps : List PySem.Str} {sp : Sp} {x : PySem.Str} {p pos : Pos}
theorem goG {pins : List (Addr × Obj)} {σ : L2.St} {H : Hp} {s : Shared} {Q : VK} {ar : Args} {us : List Value} {vs : List V} (F : FnG X.prog X.w X.K X.mg X.base lv fa fd ps sp) (qt : Qt X.A) (rm : Room lv X.A) (I : Inv X pins σ H s) (bd : BindsTo s fd ar (ps.zip us)) (rv : Vals vs us) (h : sp vs H Q E0) :
    codeAny (model X.prog X.w) X.A (.call (.ref fa) ar) (fun r s' => match r with | .ok (.ret u) => EP X pins σ Q u s' | _ => False) s := by
  refine codeAny_mono (F.go X.A X.stack s H ar us vs Q E0 qt rm I.env0 bd rv h) ?_
  intro r s' hr
  match r, hr with
  | .ok (.ret u), hr => exact I.after hr
  | .ok .next, hr => exact False.elim hr
  | .ok .brk, hr => exact False.elim hr
  | .ok .cont, hr => exact False.elim hr
  | .error e, hr => exact False.elim hr
theorem callG {pins : List (Addr × Obj)} {σ : L2.St} {H : Hp} {s : Shared} {Q : VK} {us : List Value} {vs : List V} (F : FnG X.prog X.w X.K X.mg X.base lv fa fd ps sp) (qt : Qt X.A) (rm : Room lv X.A) (bd : Binds X.K fd ps []) (I : Inv X pins σ H s) (rv : Vals vs us) (h : sp vs H Q E0) :
    wpAny (model X.prog X.w) X.A (call (.ref fa) us) (EP X pins σ Q) X.xe s := by
  have hl : us.length = ps.length := by rw [← rv.length]; exact F.ln _ _ _ _ h
  have b := bd s us I.kIn (by rw [List.append_nil]; exact hl)
  rw [List.append_nil] at b
  refine wpAny_call (codeAny_mono (goG F qt rm I b rv h) ?_)
  intro r s' hr
  match r, hr with
  | .ok (.ret u), hr => exact hr
theorem callKG {pins : List (Addr × Obj)} {σ : L2.St} {H : Hp} {s : Shared} {Q : VK} {ks : List PySem.Str} {g : List Value → List Value → List Value} {gV : List V → List V → List V} {us ws : List Value} {vs zs : List V} (F : FnG X.prog X.w X.K X.mg X.base lv fa fd ps sp) (qt : Qt X.A) (rm : Room lv X.A) (bd : KBinds X.K fd ps ks g gV)
    (I : Inv X pins σ H s) (rv : Vals vs us) (rz : Vals zs ws) (h : sp (gV vs zs) H Q E0) : wpAny (model X.prog X.w) X.A (call (.ref fa) us (ks.zip ws)) (EP X pins σ Q) X.xe s := by
  have rr := bd.rel rv rz
  have hl : (g us ws).length = ps.length := by rw [← rr.length]; exact F.ln _ _ _ _ h
  refine wpAny_call (codeAny_mono (goG F qt rm I (bd.to s us ws I.kIn hl) rr h) ?_)
  intro r s' hr
  match r, hr with
  | .ok (.ret u), hr => exact hr
/-- f(e, ..) -/
def tCallG (sp : Sp) (t : TA) : TE := fun σ H Q => t σ H fun vs H1 => sp vs H1 Q E0
theorem pe_callG {e : Expr} {es : List Expr} {t : TA} (F : FnG X.prog X.w X.K X.mg X.base lv fa fd ps sp) (qt : Qt X.A) (rm : Room lv X.A) (hg : Gl X x) (hm : X.mg x = some (.ref fa)) (hk : PySem.W.keepIn X.K (.ref fa) = true) (bd : Binds X.K fd ps [])
    (pa : PA X (e :: es) t) (hdb : (x == ("__debug__" : PySem.Str)) = false) (he : starEach (e :: es) X.env = (false, eval e X.env) :: starEach es X.env) (hpl : (backTo pos (starEach es X.env)).any (·.1) = false) : PE X (.Call (.Name x p) (e :: es) [] pos) (tCallG sp t) := by
  constructor
  intro pins s σ H Q I h
  apply wpAny_Call_Name_kw
  apply ld_glob I hg hm _ hdb
  refine PySem.W.callWith_K (h₀ := X.base) I.ok.mod.kin hk (thn (pa.run pos pins s σ H _ I h) ?_) he hpl
  rintro us s1 ⟨vs, H1, I1, rv, q⟩
  exact ⟨I1.kIn, callG F qt rm bd I1 rv q⟩
/-- f(e, .., k = v, ..) -/
def tCallKG (sp : Sp) (gV : List V → List V → List V) (t tk : TA) : TE := fun σ H Q => t σ H fun vs H1 => tk σ H1 fun zs H2 => sp (gV vs zs) H2 Q E0
theorem pe_callKG {e : Expr} {es : List Expr} {t tk : TA} {ks : List PySem.Str} {kws : List Keyword} {g : List Value → List Value → List Value} {gV : List V → List V → List V} (F : FnG X.prog X.w X.K X.mg X.base lv fa fd ps sp) (qt : Qt X.A) (rm : Room lv X.A) (hg : Gl X x) (hm : X.mg x = some (.ref fa)) (hk : PySem.W.keepIn X.K (.ref fa) = true) (bd : KBinds X.K fd ps ks g gV)
    (pa : PA X (e :: es) t) (pk : PK X kws tk) (hall : (backToKw pos (keywordEach kws X.env)).all (·.1.isSome) = true) (hks : (backToKw pos (keywordEach kws X.env)).filterMap (·.1) = ks) (hdb : (x == ("__debug__" : PySem.Str)) = false) (he : starEach (e :: es) X.env = (false, eval e X.env) :: starEach es X.env)
    (hpl : ((backTo pos (starEach (e :: es) X.env)).any (·.1) || (backToKw pos (keywordEach kws X.env)).any (·.1.isNone)) = false) : PE X (.Call (.Name x p) (e :: es) kws pos) (tCallKG sp gV t tk) := by
  constructor
  intro pins s σ H Q I h
  apply wpAny_Call_Name_kw
  apply ld_glob I hg hm _ hdb
  refine PySem.W.callWith_KW (h₀ := X.base) I.ok.mod.kin hk hall (thn (pa.run pos pins s σ H _ I h) ?_) hpl he
  rintro us s1 ⟨vs, H1, I1, rv, q⟩
  refine thn (pk.run pos pins s1 σ H1 _ I1 q) ?_
  rintro ws s2 ⟨zs, H2, I2, rz, q2⟩
  refine ⟨I2.kIn, ?_⟩
  rw [hks]
  exact callKG F qt rm bd I2 rv rz q2
/-- all arguments by keyword -/
theorem pe_callK0G {tk : TA} {ks : List PySem.Str} {kws : List Keyword} {g : List Value → List Value → List Value} {gV : List V → List V → List V} (F : FnG X.prog X.w X.K X.mg X.base lv fa fd ps sp) (qt : Qt X.A) (rm : Room lv X.A) (hg : Gl X x) (hm : X.mg x = some (.ref fa)) (hk : PySem.W.keepIn X.K (.ref fa) = true) (bd : KBinds X.K fd ps ks g gV)
    (pk : PK X kws tk) (hall : (backToKw pos (keywordEach kws X.env)).all (·.1.isSome) = true) (hks : (backToKw pos (keywordEach kws X.env)).filterMap (·.1) = ks) (hno : (backToKw pos (keywordEach kws X.env)).any (·.1.isNone) = false) (hdb : (x == ("__debug__" : PySem.Str)) = false) :
    PE X (.Call (.Name x p) [] kws pos) (fun σ H Q => tk σ H fun zs H2 => sp (gV [] zs) H2 Q E0) := by
  constructor
  intro pins s σ H Q I h
  apply wpAny_Call_Name_kw
  apply ld_glob I hg hm _ hdb
  refine PySem.W.callWith_KW0 (h₀ := X.base) I.ok.mod.kin hk hall (thn (pk.run pos pins s σ H _ I h) ?_) (by rw [hno]; rfl)
  rintro ws s2 ⟨zs, H2, I2, rz, q2⟩
  refine ⟨I2.kIn, ?_⟩
  rw [hks, List.append_nil]
  exact callKG F qt rm bd I2 .nil rz q2
end
end Mn

/-! t[::-1] of a tuple; repr of data in tuples where no repr is under way -/
namespace Mn
open PySem PySem.Spec PyProof.Rows L2 HT
section
variable {prog : Program} {w : World} {A : Around} {E : Value → Shared → Prop} {s : Shared}
theorem adjust_rev (n : Nat) : Builtin.Slice.sliceAdjust none none (-1) (n : Int) = ((n : Int) - 1, -1) := by
  unfold Builtin.Slice.sliceAdjust
  rfl
theorem places_rev (n : Nat) : Builtin.Slice.slicePlaces ((n : Int) - 1) (-1) (-1) = n := by
  unfold Builtin.Slice.slicePlaces
  rw [if_neg (by decide)]
  rw [show -(-1 : Int) = 1 from rfl, Int.ediv_one]
  split <;> omega
theorem applied_rev {sl : Addr} {vc : Value} {n : Nat} {Q : Int × Int × Nat → Shared → Prop} (hs : s.heap.IsSliceOf sl .none .none vc) (pc : IsPart vc (some (-1)))
    (h : Q ((n : Int) - 1, -1, n) s) : wpAny (model prog w) A (Builtin.Slice.sliceApplied (.ref sl) (pure (n : Int))) Q E s := by
  obtain ⟨os, hos, hcs, hds⟩ := id hs
  unfold Builtin.Slice.sliceApplied Builtin.Slice.sliceFields
  apply wpAny_bind
  apply wpAny_bind
  apply wpAny_field hos hds (x := .none) rfl
  apply wpAny_bind
  apply wpAny_field hos hds (x := .none) rfl
  apply wpAny_bind
  apply wpAny_field hos hds (x := vc) rfl
  apply wpAny_pure
  apply wpAny_bind
  apply slicePart_ pc
  show wpAny _ _ (if ((-1 : Int) == 0) = true then _ else _) _ _ s
  rw [if_neg (by decide)]
  apply wpAny_bind
  apply slicePart_none
  apply wpAny_bind
  apply slicePart_none
  apply wpAny_bind
  apply wpAny_pure
  show wpAny _ _ (match Builtin.Slice.sliceAdjust none none (-1) (n : Int) with | (lo, hi) => pure (lo, (-1 : Int), Builtin.Slice.slicePlaces lo hi (-1))) _ _ s
  rw [adjust_rev n]
  show wpAny _ _ (pure ((n : Int) - 1, (-1 : Int), Builtin.Slice.slicePlaces ((n : Int) - 1) (-1) (-1))) _ _ s
  rw [places_rev]
  exact wpAny_pure h
theorem pick_rev (xs : Array Value) : ((List.range xs.size).filterMap fun (m : Nat) => xs[((xs.size : Int) - 1 + (m : Int) * (-1)).toNat]?).toArray = xs.toList.reverse.toArray := by
  congr 1
  apply List.ext_getElem?
  intro i
  have key : ∀ k, k ≤ xs.size → ((List.range k).filterMap fun (m : Nat) => xs[((xs.size : Int) - 1 + (m : Int) * (-1)).toNat]?) = xs.toList.reverse.take k := by
    intro k
    induction k with
    | zero => intro _; rfl
    | succ k ih =>
      intro hk
      have e1 : ((xs.size : Int) - 1 + (k : Int) * (-1)).toNat = xs.size - 1 - k := by omega
      have e2 : xs[xs.size - 1 - k]? = some (xs[xs.size - 1 - k]'(by omega)) := by rw [Array.getElem?_eq_getElem]
      have e3 : xs.toList.reverse[k]? = some (xs[xs.size - 1 - k]'(by omega)) := by
        rw [List.getElem?_reverse (by simpa using (by omega : k < xs.size))]
        simp only [Array.length_toList, Array.getElem?_toList]
        exact e2
      rw [List.range_succ, List.filterMap_append, ih (by omega), List.take_add_one, e3]
      simp only [List.filterMap_cons, List.filterMap_nil, e1, e2, Option.toList]
  rw [key xs.size (Nat.le_refl _), List.take_of_length_le (by simp)]
theorem getItem_rev {t sl : Addr} {items : Array Value} {vc : Value} {Q : Value → Shared → Prop} (ht : IsTup s.heap t items) (hs : s.heap.IsSliceOf sl .none .none vc) (pc : IsPart vc (some (-1)))
    (h : Q (.ref s.heap.objs.size) { s with heap := s.heap.push { cls := .type "tuple", data := .seq items.toList.reverse.toArray } }) (hsz : items.size ≤ sizeLine) : wpAny (model prog w) A (getItem (.ref t) (.ref sl)) Q E s := by
  have hok : sizeOk (.seq items.toList.reverse.toArray) := by
    show items.toList.reverse.toArray.size ≤ sizeLine
    rw [List.size_toArray, List.length_reverse, Array.length_toList]
    exact hsz
  obtain ⟨os, hos, hcs, hds⟩ := id hs
  have hTs : s.TypeIs (.ref sl) "slice" := ⟨os, hos, hcs⟩
  unfold getItem
  try with_reducible refine wpAny_holding ?_
  first | refine wpAny_bind (wpAny_pure ?_) | skip
  refine wpAny_bind (wpAny_sequenceKey ht.typeIs (by decide) ?_)
  refine wpAny_bind (wpAny_callSpecial?_slot (name := Str.ofString "__getitem__") ht.typeIs slot_tuple_getitem (wpAny_call_entry slot_tuple_getitem ht.typeIs entry_tuple_getitem ?_ (args_tuple_getitem _ _)))
  show wpAny _ _ (Builtin.Tuple.tupleItemsOf (.ref t) >>= _) _ _ s
  apply wpAny_bind
  apply tupleItemsOf_ ht
  apply wpAny_bind
  apply wpAny_typeOf hTs
  rw [if_pos (by decide)]
  apply wpAny_bind
  apply applied_rev hs pc
  have hno : ¬ ((((items.size : Int) - 1) == 0 && (-1 : Int) == 1 && items.size == items.size) = true) := by
    intro q
    rw [Bool.and_eq_true, Bool.and_eq_true] at q
    exact absurd q.1.2 (by decide)
  show wpAny _ _ (if (((items.size : Int) - 1) == 0 && (-1 : Int) == 1 && items.size == items.size) = true then _ else _) _ _ s
  rw [if_neg hno, pick_rev]
  first
    | exact wpAny_bind (m := Builtin.Tuple.tupleExact _) (wpAny_newObj_type (wpAny_pure ⟨_, rfl, wpAny_pure h⟩) hok)
    | exact wpAny_bind (m := Builtin.Tuple.tupleExact _) (wpAny_newObj_type (wpAny_bind (wpAny_pure (wpAny_pure ⟨_, rfl, wpAny_pure h⟩))) hok)
    | exact wpAny_bind (wpAny_bind (m := Builtin.Tuple.tupleExact _) (wpAny_newObj_type (wpAny_pure (wpAny_pure ⟨_, rfl, wpAny_pure h⟩)) hok))
    | exact wpAny_bind (wpAny_bind (m := Builtin.Tuple.tupleExact _) (wpAny_newObj_type (wpAny_pure ⟨_, rfl, wpAny_pure h⟩) hok))
end
section
variable {X : Cx}
/-- t[::-1] -/
def tRev (K : PySem.W.Frag) (te : TE) : TE := fun σ H Q => te σ H fun x H1 => ∃ a xs, x = .ref a ∧ SqT K H1 a xs ∧ ∀ p, H1 p = none → Q (.ref p) (upd H1 p (.tup xs.reverse))
theorem pe_rev {e c : Expr} {te : TE} {p2 pos : Pos} (he : PE X e te) (hc : PO X (some c) (fun _ H Q => Q (some (-1)) H)) : PE X (.Subscript e (.Slice none none (some c) p2) pos) (tRev X.K te) := by
  constructor
  intro pins s σ H Q I h
  refine Subscript_ (thn (he.run pins s σ H _ I h) ?_)
  rintro v s1 ⟨x, H1, I1, r1, a, xs, rfl, hx, q⟩
  cases r1
  apply wpAny_Slice
  rw [evalPart_none]
  apply wpAny_pure
  apply wpAny_pure
  refine thn (hc.run pins s1 σ H1 (fun o H' => o = some (-1) ∧ H' = H1) I1 ⟨rfl, rfl⟩) ?_
  rintro vc s3 ⟨o, H3, I3, pc, rfl, rfl⟩
  have I4 : Inv X pins σ H3 { s3 with heap := s3.heap.push { cls := .type "slice", data := .fields #[.none, .none, vc] } } := I3.kept (t' := s3.toks) fun b ob q => Heap.get?_push_of_some _ q
  obtain ⟨its, r, ht, hz⟩ := I4.tuple hx
  have hlen : its.toArray.size = xs.length := by rw [List.size_toArray]; exact r.length.symm
  have go : wpAny (model X.prog X.w) X.A (getItem (.ref a) (.ref s3.heap.objs.size)) (EP X pins σ Q) X.xe { s3 with heap := s3.heap.push { cls := .type "slice", data := .fields #[.none, .none, vc] } } := by
    refine getItem_rev ht (Heap.IsSliceOf.new ..) pc ?_ (by rw [hlen]; exact hz)
    refine ⟨.ref _, _, I4.laid (t' := s3.toks) (o := .tup xs.reverse) (fun b ob q => Heap.get?_push_of_some _ q) (Nat.le_refl _) ?_, rfl, q _ (I4.hok.fresh (Nat.le_refl _))⟩
    exact ⟨by rw [List.length_reverse]; exact hz, _, r.reverse, IsTup.new _ _⟩
  show wpAny (model X.prog X.w) X.A (subscriptTail e (.Slice none none (some c) p2) (.ref a) (.ref s3.heap.objs.size)) (EP X pins σ Q) X.xe _
  exact tail_any (ops := [.ref a, .ref s3.heap.objs.size]) ht.typeIs slot_tuple_getitem.lookup go (by with_unfolding_all rfl)
/-- fit to be shown -/
def shw (d : PyData) : Bool := d.showable && !d.hasDict && decide (d.depth ≤ 40) && d.leavesShort 2000 && decide (d.weight ≤ 8000)
theorem call_repr_data (qt : Qt X.A) (hu : X.A.units + 64 < cLine) : CallR X (.builtin "repr") (fun vs H Q => ∃ (a : Addr) (d : PyData), vs = [.ref a] ∧ Dp X.K H (.ref a) d ∧ shw d = true ∧ Q (.str d.shown) H) := by
  intro pins s σ H xs us Q I rx h
  obtain ⟨a, d, rfl, hd, sh, q⟩ := h
  unfold shw at sh
  simp only [Bool.and_eq_true, Bool.not_eq_true', decide_eq_true_eq] at sh
  obtain ⟨⟨⟨⟨s1, s2⟩, s3⟩, s4⟩, s5⟩ := sh
  cases rx with
  | cons r1 r2 =>
    cases r2
    cases r1
    obtain ⟨as, rd⟩ := Dp.reads I d (.ref a) (.ref a) hd rfl
    have sz : d.shown.length ≤ sizeLine := by
      have := PyData.shown_le 2000 (by decide) d s4
      have h2 : (2000 + 2) * d.weight + 2000 ≤ (2000 + 2) * 8000 + 2000 := by omega
      exact Nat.le_trans (Nat.le_trans this h2) (by decide)
    refine repr_of_reads' rd s1 (fun z => by rw [s2] at z; cases z) qt (by omega) (fun _ _ e => e) ?_ sz
    intro h' u tk hk
    exact ⟨.str d.shown, H, I.kept (h' := h') (t' := tk) hk, ⟨u, rfl⟩, q⟩
end
end Mn

namespace Mn
open PySem L2
variable {X : Cx}

theorem lim_le : lim ≤ sizeLine := by decide
theorem lim_lt {n : Nat} (h : n < lim) : n < sizeLine := Nat.lt_of_lt_of_le h lim_le
theorem sm_log {i : Int} (h : sm i = true) : i.natAbs.log2 < 8000 := by unfold sm at h; exact of_decide_eq_true h
theorem intBits_log (x : Int) : Builtin.Int.intBits x ≤ x.natAbs.log2 + 1 := by
  unfold Builtin.Int.intBits
  split <;> omega

/-- an operation by data -/
def rD (K : PySem.W.Frag) (f : D → D → Option D) : R2 := fun x y H Q => ∃ B a b d, BL H B ∧ Rep K H B a x ∧ Rep K H B b y ∧ f a b = some d ∧ ∀ z H', Al H H' → Rep K H' B d z → Q z H'
theorem op_fdivWN : OpR X (binaryOp .FloorDiv) (rI (fun _ j => j ≠ 0 ∧ j.natAbs.log2 < 9000) fun i j => .int (i.fdiv j)) := opI fun i j _ _ _ _ _ hc q => PyProof.Rows.floordiv_int hc.1 q (.inl (PyProof.noPylong_of_log2 hc.2))
theorem op_powW : OpR X (binaryOp .Pow) (rI (fun i j => 0 ≤ j ∧ j ≤ 1000 ∧ i.natAbs.log2 < 8000) fun i j => .int (i ^ j.toNat)) := opI fun i j _ _ _ _ _ hc q => by
  refine PyProof.Rows.pow_int hc.1 ?_ q
  have h1 := intBits_log i
  have h2 : (Builtin.Int.intBits i : Int) ≤ 8000 := by have := hc.2.2; omega
  have h3 : (0 : Int) ≤ Builtin.Int.intBits i := Int.natCast_nonneg _
  calc (Builtin.Int.intBits i : Int) * j ≤ 8000 * 1000 := Int.mul_le_mul h2 hc.2.1 hc.1 (by omega)
    _ ≤ 2 ^ 27 := by decide

def oB : BO → Operator
  | .add => .Add | .sub => .Sub | .mul => .Mult | .div => .FloorDiv | .mod => .Mod | .pow => .Pow
theorem op_addD : OpR X (binaryOp .Add) (rD X.K (opB .add)) := by
  intro pins s σ H x y v u Q I rx ry h
  obtain ⟨B, a, b, d, bl, ha, hb, e, q⟩ := h
  unfold opB at e
  split at e <;> simp only [reduceCtorEq, Option.some.injEq, Option.ite_none_right_eq_some] at *
  · subst e; cases ha; cases hb
    exact op_add pins s σ H _ _ v u Q I rx ry ⟨_, _, rfl, rfl, q _ H (Al.refl H) rfl⟩
  · obtain ⟨e1, rfl⟩ := e; cases ha; cases hb
    exact op_add_str pins s σ H _ _ v u Q I rx ry ⟨_, _, rfl, rfl, Nat.le_trans e1 lim_le, q _ H (Al.refl H) rfl⟩
  · obtain ⟨e1, rfl⟩ := e
    obtain ⟨p, vs, rfl, r1, n1, g1⟩ := ha
    obtain ⟨p2, ws, rfl, r2, n2, g2⟩ := hb
    refine op_cat pins s σ H _ _ v u Q I rx ry ⟨_, _, _, _, rfl, rfl, r1, r2, by rw [g1.len, g2.len]; exact Nat.le_trans e1 lim_le, fun p3 h3 => q _ _ (Al.new h3) ⟨p3, _, rfl, upd_same, fun z => ?_, (g1.al bl (Al.new h3)).app (g2.al bl (Al.new h3))⟩⟩
    obtain ⟨_, z⟩ := bl _ z; rw [h3] at z; cases z
  · obtain ⟨e1, rfl⟩ := e
    obtain ⟨p, vs, rfl, r1, g1⟩ := ha
    obtain ⟨p2, ws, rfl, r2, g2⟩ := hb
    have l1 := g1.len
    have l2 := g2.len
    refine op_catA pins s σ H _ _ v u Q I rx ry ⟨_, _, _, _, rfl, rfl, r1, r2, by rw [l1, l2]; exact Nat.le_trans e1 lim_le, ?_, ?_, ?_⟩
    · intro z; subst z
      rename_i x1 y1 _
      have : x1 = [] := List.eq_nil_of_length_eq_zero (by simpa using l1.symm)
      subst this
      exact q _ H (Al.refl H) ⟨p2, ws, rfl, r2, g2⟩
    · intro _ z; subst z
      rename_i x1 y1 _ _
      have : y1 = [] := List.eq_nil_of_length_eq_zero (by simpa using l2.symm)
      subst this
      exact q _ H (Al.refl H) ⟨p, vs, rfl, r1, by rw [List.append_nil]; exact g1⟩
    · exact fun _ _ p3 h3 => q _ _ (Al.new h3) ⟨p3, _, rfl, .inl (.inl upd_same), (g1.al bl (Al.new h3)).app (g2.al bl (Al.new h3))⟩
theorem op_subD : OpR X (binaryOp .Sub) (rD X.K (opB .sub)) := by
  intro pins s σ H x y v u Q I rx ry h
  obtain ⟨B, a, b, d, bl, ha, hb, e, q⟩ := h
  unfold opB at e
  split at e <;> simp only [reduceCtorEq, Option.some.injEq, Option.ite_none_right_eq_some] at *
  subst e; cases ha; cases hb
  exact op_sub pins s σ H _ _ v u Q I rx ry ⟨_, _, rfl, rfl, q _ H (Al.refl H) rfl⟩
theorem op_mulD : OpR X (binaryOp .Mult) (rD X.K (opB .mul)) := by
  intro pins s σ H x y v u Q I rx ry h
  obtain ⟨B, a, b, d, bl, ha, hb, e, q⟩ := h
  unfold opB at e
  split at e <;> simp only [reduceCtorEq, Option.some.injEq, Option.ite_none_right_eq_some, Bool.and_eq_true, decide_eq_true_eq] at *
  · obtain ⟨⟨e1, e2⟩, rfl⟩ := e; cases ha; cases hb
    have h1 := sm_log e1
    have h2 := sm_log e2
    exact op_mulW pins s σ H _ _ v u Q I rx ry ⟨_, _, rfl, rfl, (by unfold CMulW; omega), q _ H (Al.refl H) rfl⟩
  · obtain ⟨⟨e0, e3⟩, rfl⟩ := e
    obtain ⟨p, vs, rfl, r1, n1, g1⟩ := ha
    cases hb
    have e9 := wi_lt e0 (by decide)
    refine op_rep pins s σ H _ _ v u Q I rx ry ⟨_, _, _, rfl, rfl, r1, by omega, by omega, by rw [g1.len]; exact Nat.le_trans e3 lim_le, fun p3 h3 => q _ _ (Al.new h3) ⟨p3, _, rfl, upd_same, fun z => ?_, (g1.al bl (Al.new h3)).rep _⟩⟩
    obtain ⟨_, z⟩ := bl _ z; rw [h3] at z; cases z
theorem op_divD : OpR X (binaryOp .FloorDiv) (rD X.K (opB .div)) := by
  intro pins s σ H x y v u Q I rx ry h
  obtain ⟨B, a, b, d, bl, ha, hb, e, q⟩ := h
  unfold opB at e
  split at e <;> simp only [reduceCtorEq, Option.some.injEq, Option.ite_none_right_eq_some, Bool.and_eq_true, decide_eq_true_eq] at *
  obtain ⟨⟨e1, e2⟩, rfl⟩ := e; cases ha; cases hb
  have h1 := sm_log e1
  exact op_fdivWN pins s σ H _ _ v u Q I rx ry ⟨_, _, rfl, rfl, ⟨e2, by omega⟩, q _ H (Al.refl H) rfl⟩
theorem op_modD : OpR X (binaryOp .Mod) (rD X.K (opB .mod)) := by
  intro pins s σ H x y v u Q I rx ry h
  obtain ⟨B, a, b, d, bl, ha, hb, e, q⟩ := h
  unfold opB at e
  split at e <;> simp only [reduceCtorEq, Option.some.injEq, Option.ite_none_right_eq_some, Bool.and_eq_true, decide_eq_true_eq] at *
  obtain ⟨e1, rfl⟩ := e; cases ha; cases hb
  exact op_mod pins s σ H _ _ v u Q I rx ry ⟨_, _, rfl, rfl, e1, q _ H (Al.refl H) rfl⟩
theorem op_powD : OpR X (binaryOp .Pow) (rD X.K (opB .pow)) := by
  intro pins s σ H x y v u Q I rx ry h
  obtain ⟨B, a, b, d, bl, ha, hb, e, q⟩ := h
  unfold opB at e
  split at e <;> simp only [reduceCtorEq, Option.some.injEq, Option.ite_none_right_eq_some, Bool.and_eq_true, decide_eq_true_eq] at *
  obtain ⟨⟨⟨e1, e2⟩, e3⟩, rfl⟩ := e; cases ha; cases hb
  exact op_powW pins s σ H _ _ v u Q I rx ry ⟨_, _, rfl, rfl, ⟨e2, e3, sm_log e1⟩, q _ H (Al.refl H) rfl⟩
theorem op_binD (o : BO) : OpR X (binaryOp (oB o)) (rD X.K (opB o)) := by
  cases o
  · exact op_addD
  · exact op_subD
  · exact op_mulD
  · exact op_divD
  · exact op_modD
  · exact op_powD

def oC : CO → CmpOp
  | .eq => .Eq | .ne => .NotEq | .lt => .Lt | .le => .LtE | .gt => .Gt | .ge => .GtE | .is => .Is | .isn => .IsNot | .inn => .In | .nin => .NotIn
mutual
theorem toP_plain : ∀ d : D, (toP d).plain = true
  | .non => rfl
  | .bl _ => rfl
  | .int _ => rfl
  | .str _ => rfl
  | .tup xs => toPL_plain xs
  | .lst xs => toPL_plain xs
  | .scr ns => by
    show PyData.plainAll (ns.map PyData.int) = true
    induction ns with
    | nil => rfl
    | cons n r ih => exact ih
  | .obj _ _ _ => rfl
  | .adr _ => rfl
theorem toPL_plain : ∀ ds : List D, PyData.plainAll (toPL ds) = true
  | [] => rfl
  | x :: xs => by
    show ((toP x).plain && PyData.plainAll (toPL xs)) = true
    rw [toP_plain x, toPL_plain xs]; rfl
end
theorem toPL_any (f : PyData → Bool) : ∀ ds : List D, (toPL ds).any f = ds.any fun d => f (toP d)
  | [] => rfl
  | x :: xs => by
    show (f (toP x) || (toPL xs).any f) = (f (toP x) || xs.any fun d => f (toP d))
    rw [toPL_any f xs]
theorem dsh_le {d : D} (h : dsh d = true) : (toP d).depth ≤ 40 := by unfold dsh at h; rw [Bool.and_eq_true] at h; exact of_decide_eq_true h.2
theorem dsh_nob {d : D} (h : dsh d = true) : nob d = true := by unfold dsh at h; rw [Bool.and_eq_true] at h; exact h.1
theorem op_eqM (hu : X.A.units + 64 < cLine) : OpR X (compareOp .Eq) (rD X.K fun a b => (opC .eq a b).map D.bl) := by
  intro pins s σ H x y v u Q I rx ry h
  obtain ⟨B, a, b, d, bl, ha, hb, e, q⟩ := h
  unfold opC at e
  simp only [Option.map_eq_some_iff, Option.ite_none_right_eq_some, Bool.and_eq_true, Option.some.injEq] at e
  obtain ⟨_, ⟨⟨e1, e2⟩, rfl⟩, rfl⟩ := e
  obtain ⟨as, r1⟩ := Dp.reads I _ x v (Rep.dp _ _ (dsh_nob e1) ha) rx
  obtain ⟨bs, r2⟩ := Dp.reads I _ y u (Rep.dp _ _ (dsh_nob e2) hb) ry
  have := dsh_le e1
  exact SeqAt.eq_plain r1 r2 (toP_plain a) (toP_plain b) (by omega) ⟨.bl _, H, I, rfl, q _ H (Al.refl H) rfl⟩
theorem op_neM (hu : X.A.units + 64 < cLine) : OpR X (compareOp .NotEq) (rD X.K fun a b => (opC .ne a b).map D.bl) := by
  intro pins s σ H x y v u Q I rx ry h
  obtain ⟨B, a, b, d, bl, ha, hb, e, q⟩ := h
  unfold opC at e
  simp only [Option.map_eq_some_iff, Option.ite_none_right_eq_some, Bool.and_eq_true, Option.some.injEq] at e
  obtain ⟨_, ⟨⟨e1, e2⟩, rfl⟩, rfl⟩ := e
  obtain ⟨as, r1⟩ := Dp.reads I _ x v (Rep.dp _ _ (dsh_nob e1) ha) rx
  obtain ⟨bs, r2⟩ := Dp.reads I _ y u (Rep.dp _ _ (dsh_nob e2) hb) ry
  have := dsh_le e1
  exact SeqAt.ne_plain r1 r2 (toP_plain a) (toP_plain b) (by omega) ⟨.bl _, H, I, rfl, q _ H (Al.refl H) rfl⟩
theorem op_inM (hu : X.A.units + 64 < cLine) : OpR X (compareOp .In) (rD X.K fun a b => (opC .inn a b).map D.bl) := by
  intro pins s σ H x y v u Q I rx ry h
  obtain ⟨B, a, b, d, bl, ha, hb, e, q⟩ := h
  unfold opC at e
  cases b <;> simp only [Option.map_eq_some_iff, Option.ite_none_right_eq_some, Option.some.injEq, Bool.and_eq_true, reduceCtorEq, false_and, and_false, exists_false] at e
  · rename_i ys
    obtain ⟨_, ⟨⟨e1, e2⟩, rfl⟩, rfl⟩ := e
    have := dsh_le e1
    obtain ⟨as, r1⟩ := Dp.reads I _ x v (Rep.dp _ _ (dsh_nob e1) ha) rx
    obtain ⟨bs, r2⟩ := Dp.reads I _ y u (Rep.dp _ _ (show nob (.tup ys) = true from e2) hb) ry
    refine SeqAt.in_tuple_data (xs := toPL ys) r2 r1 (toPL_plain ys) (toP_plain a) (by omega) ?_
    rw [toPL_any]
    exact ⟨.bl _, H, I, rfl, q _ H (Al.refl H) rfl⟩
  · rename_i ys
    obtain ⟨_, ⟨⟨e1, e2⟩, rfl⟩, rfl⟩ := e
    have := dsh_le e1
    obtain ⟨as, r1⟩ := Dp.reads I _ x v (Rep.dp _ _ (dsh_nob e1) ha) rx
    obtain ⟨bs, r2⟩ := Dp.reads I _ y u (Rep.dp _ _ (show nob (.lst ys) = true from e2) hb) ry
    refine SeqAt.in_list_data (xs := toPL ys) r2 r1 (toPL_plain ys) (toP_plain a) (by omega) ?_
    rw [toPL_any]
    exact ⟨.bl _, H, I, rfl, q _ H (Al.refl H) rfl⟩
theorem op_ninM (hu : X.A.units + 64 < cLine) : OpR X (compareOp .NotIn) (rD X.K fun a b => (opC .nin a b).map D.bl) := by
  intro pins s σ H x y v u Q I rx ry h
  obtain ⟨B, a, b, d, bl, ha, hb, e, q⟩ := h
  unfold opC at e
  cases b <;> simp only [Option.map_eq_some_iff, Option.ite_none_right_eq_some, Option.some.injEq, Bool.and_eq_true, reduceCtorEq, false_and, and_false, exists_false] at e
  · rename_i ys
    obtain ⟨_, ⟨⟨e1, e2⟩, rfl⟩, rfl⟩ := e
    have := dsh_le e1
    obtain ⟨as, r1⟩ := Dp.reads I _ x v (Rep.dp _ _ (dsh_nob e1) ha) rx
    obtain ⟨bs, r2⟩ := Dp.reads I _ y u (Rep.dp _ _ (show nob (.tup ys) = true from e2) hb) ry
    refine SeqAt.notIn_tuple_data (xs := toPL ys) r2 r1 (toPL_plain ys) (toP_plain a) (by omega) ?_
    rw [toPL_any]
    exact ⟨.bl _, H, I, rfl, q _ H (Al.refl H) rfl⟩
  · rename_i ys
    obtain ⟨_, ⟨⟨e1, e2⟩, rfl⟩, rfl⟩ := e
    have := dsh_le e1
    obtain ⟨as, r1⟩ := Dp.reads I _ x v (Rep.dp _ _ (dsh_nob e1) ha) rx
    obtain ⟨bs, r2⟩ := Dp.reads I _ y u (Rep.dp _ _ (show nob (.lst ys) = true from e2) hb) ry
    refine SeqAt.notIn_list_data (xs := toPL ys) r2 r1 (toPL_plain ys) (toP_plain a) (by omega) ?_
    rw [toPL_any]
    exact ⟨.bl _, H, I, rfl, q _ H (Al.refl H) rfl⟩
theorem op_ordM (o : CO) (r : Int → Int → Bool) (h : OpR X (compareOp (oC o)) (rI0 fun i j => .bl (r i j))) (ho : ∀ a b d, opC o a b = some d → ∃ i j, a = .int i ∧ b = .int j ∧ d = r i j) : OpR X (compareOp (oC o)) (rD X.K fun a b => (opC o a b).map D.bl) := by
  intro pins s σ H x y v u Q I rx ry hh
  obtain ⟨B, a, b, d, bl, ha, hb, e, q⟩ := hh
  simp only [Option.map_eq_some_iff] at e
  obtain ⟨k, e, rfl⟩ := e
  obtain ⟨i, j, rfl, rfl, rfl⟩ := ho _ _ _ e
  cases ha; cases hb
  exact h pins s σ H _ _ v u Q I rx ry ⟨_, _, rfl, rfl, q _ H (Al.refl H) rfl⟩
theorem atI_map {ns : List Int} {i k : Int} (h : atI ns i = some k) : atI (ns.map V.int) i = some (V.int k) := by
  unfold atI at h ⊢
  rw [List.length_map]
  cases z : ixN ns.length i with
  | none => rw [z] at h; cases h
  | some j =>
    rw [z] at h
    simp only [Option.bind_some] at h ⊢
    rw [List.getElem?_map, h]; rfl
theorem rep_non {K : PySem.W.Frag} {H : Hp} {B : AP'} {d : D} {v : V} (h : Rep K H B d v) (nd : d ≠ .non) : v ≠ .non := by
  cases d
  · exact absurd rfl nd
  · cases h; exact fun z => nomatch z
  · cases h; exact fun z => nomatch z
  · cases h; exact fun z => nomatch z
  · obtain ⟨_, _, rfl, _⟩ := h; exact fun z => nomatch z
  · obtain ⟨_, _, rfl, _⟩ := h; exact fun z => nomatch z
  · obtain ⟨_, rfl, _⟩ := h; exact fun z => nomatch z
  · obtain ⟨_, _, _, _, rfl, _⟩ := h; exact fun z => nomatch z
  · cases h; exact fun z => nomatch z
theorem op_isM : OpR X (compareOp .Is) (rD X.K fun a b => (opC .is a b).map D.bl) := by
  intro pins s σ H x y v u Q I rx ry hh
  obtain ⟨B, a, b, d, bl, ha, hb, e, q⟩ := hh
  simp only [Option.map_eq_some_iff] at e
  obtain ⟨k, e, rfl⟩ := e
  cases b with
  | non =>
    cases hb
    refine op_isN pins s σ H _ _ v u Q I rx ry ⟨rfl, ?_⟩
    cases a with
    | non => cases ha; cases e; exact q _ H (Al.refl H) rfl
    | scr _ => simp [opC] at e
    | adr _ => simp [opC] at e
    | _ =>
      have nn := rep_non ha (fun z => nomatch z)
      cases e
      rw [decide_eq_false nn]; exact q _ H (Al.refl H) rfl
  | bl j =>
    cases a with
    | bl i => 
      cases ha; cases hb; cases e
      refine op_isBl pins s σ H _ _ v u Q I rx ry ⟨_, _, rfl, rfl, ?_⟩
      exact q _ H (Al.refl H) (by first | rfl | (cases i <;> cases j <;> rfl))
    | _ => simp [opC] at e
  | _ => cases a <;> simp [opC] at e
theorem op_isnM : OpR X (compareOp .IsNot) (rD X.K fun a b => (opC .isn a b).map D.bl) := by
  intro pins s σ H x y v u Q I rx ry hh
  obtain ⟨B, a, b, d, bl, ha, hb, e, q⟩ := hh
  simp only [Option.map_eq_some_iff] at e
  obtain ⟨k, e, rfl⟩ := e
  cases b with
  | non =>
    cases hb
    refine op_notN pins s σ H _ _ v u Q I rx ry ⟨rfl, ?_⟩
    cases a with
    | non => cases ha; cases e; exact q _ H (Al.refl H) rfl
    | scr _ => simp [opC] at e
    | adr _ => simp [opC] at e
    | _ =>
      have nn := rep_non ha (fun z => nomatch z)
      cases e
      rw [decide_eq_false nn]; exact q _ H (Al.refl H) rfl
  | bl j =>
    cases a with
    | bl i => 
      cases ha; cases hb; cases e
      refine op_notBl pins s σ H _ _ v u Q I rx ry ⟨_, _, rfl, rfl, ?_⟩
      exact q _ H (Al.refl H) (by first | rfl | (cases i <;> cases j <;> rfl))
    | _ => simp [opC] at e
  | _ => cases a <;> simp [opC] at e
theorem op_cmpM (hu : X.A.units + 64 < cLine) (o : CO) : OpR X (compareOp (oC o)) (rD X.K fun a b => (opC o a b).map D.bl) := by
  cases o
  · exact op_eqM hu
  · exact op_neM hu
  · exact op_ordM .lt _ op_lt fun a b d e => by cases a <;> cases b <;> simp [opC] at e; exact ⟨_, _, rfl, rfl, e.symm⟩
  · exact op_ordM .le _ op_le fun a b d e => by cases a <;> cases b <;> simp [opC] at e; exact ⟨_, _, rfl, rfl, e.symm⟩
  · exact op_ordM .gt _ op_gt fun a b d e => by cases a <;> cases b <;> simp [opC] at e; exact ⟨_, _, rfl, rfl, e.symm⟩
  · exact op_ordM .ge _ op_ge fun a b d e => by cases a <;> cases b <;> simp [opC] at e; exact ⟨_, _, rfl, rfl, e.symm⟩
  · exact op_isM
  · exact op_isnM
  · exact op_inM hu
  · exact op_ninM hu
/-- an item -/
theorem ix_D : IxR X (rD X.K opIx) := by
  intro value slice pins s σ H x y v u Q I rx ry hh hs
  obtain ⟨B, a, b, d, bl, ha, hb, e, q⟩ := hh
  have at_ : ∀ {ds : List D} {vs : List V} {i : Int} {d : D}, RepL X.K H B ds vs → atI ds i = some d → ∃ w, atI vs i = some w ∧ Rep X.K H B d w := fun {ds vs i d} g h => by
    unfold atI at h ⊢
    rw [g.len]
    cases z : ixN ds.length i with
    | none => rw [z] at h; cases h
    | some j => rw [z] at h; exact g.get h
  unfold opIx at e
  split at e
  · obtain ⟨p, vs, rfl, h1, _, g⟩ := ha
    cases hb
    obtain ⟨w, e1, r⟩ := at_ g e
    exact ix_list value slice pins s σ H _ _ v u Q I rx ry ⟨p, vs, _, w, rfl, rfl, .inl (.inl h1), e1, q w H (Al.refl H) r⟩ hs
  · obtain ⟨p, vs, rfl, h1, g⟩ := ha
    cases hb
    obtain ⟨w, e1, r⟩ := at_ g e
    exact ix_tup value slice pins s σ H _ _ v u Q I rx ry ⟨p, vs, _, w, rfl, rfl, h1, e1, q w H (Al.refl H) r⟩ hs
  · obtain ⟨p, rfl, h1⟩ := ha
    cases hb
    rw [Option.map_eq_some_iff] at e
    obtain ⟨k, e, rfl⟩ := e
    have e1 := atI_map e
    exact ix_list value slice pins s σ H _ _ v u Q I rx ry ⟨p, _, _, V.int k, rfl, rfl, h1.sq, e1, q _ H (Al.refl H) rfl⟩ hs
  · cases e

/-! ### calls of built-ins, by data -/
def rF (K : PySem.W.Frag) (f : List D → Option D) : List V → Hp → VK → Prop := fun vs H Q => ∃ B ds d, BL H B ∧ RepL K H B ds vs ∧ f ds = some d ∧ ∀ z H', Al H H' → Rep K H' B d z → Q z H'
theorem call_of {f : Value} {r r' : List V → Hp → VK → Prop} (h : CallR X f r) (i : ∀ xs H Q, r' xs H Q → r xs H Q) : CallR X f r' := fun pins s σ H xs us Q I rx q => h pins s σ H xs us Q I rx (i xs H Q q)
theorem RepL.one {K : PySem.W.Frag} {H : Hp} {B : AP'} {d : D} {vs : List V} (h : RepL K H B [d] vs) : ∃ v, vs = [v] ∧ Rep K H B d v := by
  obtain ⟨v, r, rfl, q, e⟩ := h
  rw [show r = [] from e]; exact ⟨v, rfl, q⟩
theorem RepL.two {K : PySem.W.Frag} {H : Hp} {B : AP'} {d e : D} {vs : List V} (h : RepL K H B [d, e] vs) : ∃ v w, vs = [v, w] ∧ Rep K H B d v ∧ Rep K H B e w := by
  obtain ⟨v, r, rfl, q, h⟩ := h
  obtain ⟨w, rfl, q2⟩ := RepL.one h
  exact ⟨v, w, rfl, q, q2⟩
theorem cf_abs : CallR X (.builtin "abs") (rF X.K (opF .abs)) := call_of call_abs fun xs H Q ⟨B, ds, d, bl, h, e, q⟩ => by
  unfold opF at e; split at e <;> simp only [reduceCtorEq, Option.some.injEq] at *
  obtain ⟨v, rfl, r⟩ := h.one; cases r; subst e
  exact ⟨_, rfl, q _ H (Al.refl H) rfl⟩
theorem cf_int : CallR X (.type "int") (rF X.K (opF .int)) := by
  intro pins s σ H xs us Q I rx ⟨B, ds, d, bl, h, e, q⟩
  unfold opF at e; split at e <;> simp only [reduceCtorEq, Option.some.injEq, Option.ite_none_right_eq_some, Option.map_eq_some_iff] at *
  · obtain ⟨v, rfl, r⟩ := h.one; cases r; subst e
    exact call_int1 pins s σ H _ us Q I rx (.inl ⟨_, rfl, q _ H (Al.refl H) rfl⟩)
  · obtain ⟨v, rfl, r⟩ := h.one; cases r; subst e
    exact call_int1 pins s σ H _ us Q I rx (.inr ⟨_, rfl, q _ H (Al.refl H) rfl⟩)
  · obtain ⟨v, rfl, r⟩ := h.one; cases r; obtain ⟨e1, n, e2, rfl⟩ := e
    exact call_int_str pins s σ H _ us Q I rx ⟨_, n, rfl, e2, e1, q _ H (Al.refl H) rfl⟩
theorem cf_str : CallR X (.type "str") (rF X.K (opF .str)) := by
  intro pins s σ H xs us Q I rx ⟨B, ds, d, bl, h, e, q⟩
  unfold opF at e; split at e <;> simp only [reduceCtorEq, Option.some.injEq, Option.ite_none_right_eq_some] at *
  · obtain ⟨v, rfl, r⟩ := h.one; cases r; obtain ⟨e1, rfl⟩ := e
    exact call_str_int pins s σ H _ us Q I rx ⟨_, rfl, e1, q _ H (Al.refl H) rfl⟩
  · obtain ⟨v, rfl, r⟩ := h.one; cases r; subst e
    exact SkE.call_str_str pins s σ H _ us Q I rx ⟨_, rfl, q _ H (Al.refl H) rfl⟩
theorem cf_len : CallR X (.builtin "len") (rF X.K (opF .len)) := call_of call_len fun xs H Q ⟨B, ds, d, bl, h, e, q⟩ => by
  unfold opF at e; split at e <;> simp only [reduceCtorEq, Option.some.injEq, Option.ite_none_right_eq_some] at *
  · obtain ⟨v, rfl, r⟩ := h.one; obtain ⟨a, vs, rfl, h1, _, g⟩ := r; subst e
    exact ⟨_, vs.length, rfl, .inl ⟨vs, .inl (.inl h1), rfl⟩, by rw [g.len]; exact q _ H (Al.refl H) rfl⟩
  · obtain ⟨v, rfl, r⟩ := h.one; obtain ⟨a, vs, rfl, h1, g⟩ := r; subst e
    exact ⟨_, vs.length, rfl, .inr ⟨vs, h1, rfl⟩, by rw [g.len]; exact q _ H (Al.refl H) rfl⟩
  · obtain ⟨v, rfl, r⟩ := h.one; obtain ⟨a, rfl, h1⟩ := r; subst e
    exact ⟨_, _, rfl, .inl ⟨_, h1.sq, rfl⟩, by rw [List.length_map]; exact q _ H (Al.refl H) rfl⟩
  · obtain ⟨v, rfl, r⟩ := h.one; cases r; obtain ⟨e1, rfl⟩ := e
    exact ⟨_, _, rfl, ⟨Nat.le_trans e1 lim_le, rfl⟩, q _ H (Al.refl H) rfl⟩
theorem cf_sum (hc : X.calm = true) : CallR X (.builtin "sum") (rF X.K (opF .sum)) := call_of (cr_sum hc) fun xs H Q ⟨B, ds, d, bl, h, e, q⟩ => by
  unfold opF at e; split at e <;> simp only [reduceCtorEq, Option.map_eq_some_iff] at *
  obtain ⟨v, rfl, r⟩ := h.one; obtain ⟨a, vs, rfl, h1, _, g⟩ := r; obtain ⟨ns, e, rfl⟩ := e
  have := g.intsD e; subst this
  exact ⟨a, ns, rfl, .inl (.inl h1), q _ H (Al.refl H) rfl⟩
theorem cr_repr_bool : CallR X (.builtin "repr") (fun xs H Q => ∃ b : Bool, xs = [.bl b] ∧ Q (.str (if b then "True" else "False")) H) := by
  intro pins s σ H xs us Q I r h
  obtain ⟨i, rfl, q⟩ := h
  obtain ⟨u, rfl, rfl⟩ := vals1 r
  exact PySem.P.repr_of_bool ⟨.str _, H, I.tok _, by cases i <;> exact ⟨_, rfl⟩, q⟩
theorem cr_repr_non : CallR X (.builtin "repr") (fun xs H Q => xs = [.non] ∧ Q (.str "None") H) := by
  intro pins s σ H xs us Q I r h
  obtain ⟨rfl, q⟩ := h
  obtain ⟨u, rfl, rfl⟩ := vals1 r
  exact PySem.P.repr_of_none ⟨.str _, H, I.tok _, ⟨_, rfl⟩, q⟩
theorem cr_repr_int : CallR X (.builtin "repr") (fun xs H Q => ∃ i : Int, xs = [.int i] ∧ i.natAbs.log2 < 1920 ∧ Q (.str (PySem.Str.ofString (toString i))) H) := by
  intro pins s σ H xs us Q I r h
  obtain ⟨i, rfl, hz, q⟩ := h
  obtain ⟨u, rfl, t, rfl⟩ := vals1 r
  exact PySem.P.repr_of_int hz ⟨.str _, H, I.tok _, ⟨_, rfl⟩, q⟩
theorem cf_repr (qt : Qt X.A) (hu : X.A.units + 64 < cLine) : CallR X (.builtin "repr") (rF X.K (opF .repr)) := by
  intro pins s σ H xs us Q I rx ⟨B, ds, d, bl, h, e, q⟩
  unfold opF at e; split at e <;> simp only [reduceCtorEq, Option.some.injEq, Option.ite_none_right_eq_some] at *
  · obtain ⟨v, rfl, r⟩ := h.one; cases r; subst e
    exact cr_repr_bool pins s σ H _ us Q I rx ⟨_, rfl, q _ H (Al.refl H) rfl⟩
  · obtain ⟨v, rfl, r⟩ := h.one; cases r; subst e
    exact cr_repr_non pins s σ H _ us Q I rx ⟨rfl, q _ H (Al.refl H) rfl⟩
  · obtain ⟨v, rfl, r⟩ := h.one; cases r; obtain ⟨e1, rfl⟩ := e
    exact cr_repr_int pins s σ H _ us Q I rx ⟨_, rfl, e1, q _ H (Al.refl H) rfl⟩
  · obtain ⟨v, rfl, r⟩ := h.one; obtain ⟨e1, rfl⟩ := e
    have sh1 := e1
    unfold shd at sh1
    simp only [Bool.and_eq_true] at sh1
    have dp := Rep.dp _ _ sh1.1.1.1.1.1 r
    obtain ⟨a, vs, rfl, _⟩ := r
    exact call_repr_data qt hu pins s σ H _ us Q I rx ⟨a, _, rfl, dp, by unfold shw; simp only [Bool.and_eq_true]; exact ⟨⟨⟨⟨sh1.1.1.1.1.2, sh1.1.1.1.2⟩, sh1.1.1.2⟩, sh1.1.2⟩, sh1.2⟩, q _ H (Al.refl H) rfl⟩
theorem cf_all (hc : X.calm = true) : CallR X (.builtin "all") (rF X.K (opF .all)) := call_of (cr_all hc) fun xs H Q ⟨B, ds, d, bl, h, e, q⟩ => by
  unfold opF at e; split at e <;> simp only [reduceCtorEq, Option.map_eq_some_iff] at *
  obtain ⟨v, rfl, r⟩ := h.one; obtain ⟨a, vs, rfl, h1, _, g⟩ := r; obtain ⟨ns, e, rfl⟩ := e
  have := g.boolsD e; subst this
  exact ⟨a, ns, rfl, .inl (.inl h1), q _ H (Al.refl H) rfl⟩
theorem cf_any (hc : X.calm = true) : CallR X (.builtin "any") (rF X.K (opF .any)) := call_of (cr_any hc) fun xs H Q ⟨B, ds, d, bl, h, e, q⟩ => by
  unfold opF at e; split at e <;> simp only [reduceCtorEq, Option.map_eq_some_iff] at *
  obtain ⟨v, rfl, r⟩ := h.one; obtain ⟨a, vs, rfl, h1, _, g⟩ := r; obtain ⟨ns, e, rfl⟩ := e
  have := g.boolsD e; subst this
  exact ⟨a, ns, rfl, .inl (.inl h1), q _ H (Al.refl H) rfl⟩
theorem cf_max (hc : X.calm = true) : CallR X (.builtin "max") (rF X.K (opF .max)) := call_of (call_max2 hc) fun xs H Q ⟨B, ds, d, bl, h, e, q⟩ => by
  unfold opF at e; split at e <;> simp only [reduceCtorEq, Option.some.injEq] at *
  obtain ⟨v, w, rfl, r1, r2⟩ := h.two; cases r1; cases r2; subst e
  exact ⟨_, _, rfl, q _ H (Al.refl H) rfl⟩
theorem cf_min (hc : X.calm = true) : CallR X (.builtin "min") (rF X.K (opF .min)) := call_of (call_min2 hc) fun xs H Q ⟨B, ds, d, bl, h, e, q⟩ => by
  unfold opF at e; split at e <;> simp only [reduceCtorEq, Option.some.injEq] at *
  obtain ⟨v, w, rfl, r1, r2⟩ := h.two; cases r1; cases r2; subst e
  exact ⟨_, _, rfl, q _ H (Al.refl H) rfl⟩
theorem cf_list : CallR X (.type "list") (rF X.K (opF .list)) := call_of call_list_of fun xs H Q ⟨B, ds, d, bl, h, e, q⟩ => by
  unfold opF at e; split at e <;> simp only [reduceCtorEq, Option.some.injEq] at *
  all_goals obtain ⟨v, rfl, r⟩ := h.one
  · obtain ⟨a, vs, rfl, h1, _, g⟩ := r; subst e
    refine ⟨a, vs, rfl, .inl (.inl (.inl h1)), fun p hp => q _ _ (Al.new hp) ⟨p, vs, rfl, upd_same, fun z => ?_, g.al bl (Al.new hp)⟩⟩
    obtain ⟨_, z⟩ := bl _ z; rw [hp] at z; cases z
  · obtain ⟨a, vs, rfl, h1, g⟩ := r; subst e
    refine ⟨a, vs, rfl, .inr h1, fun p hp => q _ _ (Al.new hp) ⟨p, vs, rfl, upd_same, fun z => ?_, g.al bl (Al.new hp)⟩⟩
    obtain ⟨_, z⟩ := bl _ z; rw [hp] at z; cases z
theorem cf_tuple : CallR X (.type "tuple") (rF X.K (opF .tuple)) := call_of call_tuple_of fun xs H Q ⟨B, ds, d, bl, h, e, q⟩ => by
  unfold opF at e; split at e <;> simp only [reduceCtorEq, Option.some.injEq] at *
  all_goals obtain ⟨v, rfl, r⟩ := h.one
  · obtain ⟨a, vs, rfl, h1, _, g⟩ := r; subst e
    exact ⟨a, vs, rfl, .inl ⟨.inl (.inl h1), fun p hp => q _ _ (Al.new hp) ⟨p, vs, rfl, .inl (.inl upd_same), g.al bl (Al.new hp)⟩⟩⟩
  · obtain ⟨a, vs, rfl, h1, g⟩ := r; subst e
    exact ⟨a, vs, rfl, .inr ⟨h1, q _ H (Al.refl H) ⟨a, vs, rfl, h1, g⟩⟩⟩
theorem cf_gcd : CallR X (.builtin "math.gcd") (rF X.K (opF .gcd)) := call_of cr_gcd fun xs H Q ⟨B, ds, d, bl, h, e, q⟩ => by
  unfold opF at e; split at e <;> simp only [reduceCtorEq, Option.some.injEq] at *
  obtain ⟨v, w, rfl, r1, r2⟩ := h.two; cases r1; cases r2; subst e
  exact ⟨_, _, rfl, q _ H (Al.refl H) rfl⟩
theorem cr_isqrt : CallR X (.builtin "math.isqrt") (fun vs H Q => ∃ a : Int, vs = [.int a] ∧ 0 ≤ a ∧ a < 2 ^ 64 ∧ Q (.int ((Float64.isqrt a.toNat : Nat) : Int)) H) := by
  intro pins s σ H vs us Q I r h
  obtain ⟨a, rfl, h0, h1, q⟩ := h
  obtain ⟨u, rfl, t, rfl⟩ := vals1 r
  exact PySem.W.mg_isqrt h0 h1 ⟨.int _, H, I.tok _, ⟨_, rfl⟩, q⟩
theorem cf_isqrt : CallR X (.builtin "math.isqrt") (rF X.K (opF .isqrt)) := call_of cr_isqrt fun xs H Q ⟨B, ds, d, bl, h, e, q⟩ => by
  unfold opF at e; split at e <;> simp only [reduceCtorEq, Option.some.injEq, Option.ite_none_right_eq_some] at *
  obtain ⟨v, rfl, r⟩ := h.one; cases r; obtain ⟨e1, rfl⟩ := e
  simp only [Bool.and_eq_true, decide_eq_true_eq] at e1
  have e2 := wi_lt e1.2 (by decide)
  exact ⟨_, rfl, e1.1, by omega, q _ H (Al.refl H) rfl⟩
theorem tyX_of {K : PySem.W.Frag} {H : Hp} {B : AP'} : ∀ {d : D} {v : V}, (∀ c ks xs, d ≠ .obj c ks xs) → (∀ a, d ≠ .adr a) → Rep K H B d v → TyX K H v (.type (tyOf d))
  | .non, _, _, _, h => by cases h; exact .base .non
  | .bl _, _, _, _, h => by cases h; exact .base (.bl _)
  | .int _, _, _, _, h => by cases h; exact .base (.int _)
  | .str _, _, _, _, h => by cases h; exact .base (.str _)
  | .tup _, _, _, _, h => by
    obtain ⟨a, vs, rfl, h1, _⟩ := h
    rcases h1 with (h1 | ⟨o, h1⟩) | ⟨o, _, _, h1, h2, _⟩
    · exact .base (.tup h1)
    · exact .fTuple h1
    · exact .kTuple h1 h2
  | .lst _, _, _, _, h => by
    obtain ⟨a, vs, rfl, h1, _⟩ := h
    exact .base (.lst h1)
  | .scr ns, _, _, _, h => by
    obtain ⟨a, rfl, h1⟩ := h
    rcases h1 with ⟨o, h1⟩ | ⟨o, _, _, h1, h2, _⟩
    · exact .base (.frz h1)
    · exact .kList h1 h2
  | .obj c ks xs, _, n, _, _ => (n c ks xs rfl).elim
  | .adr a, _, _, n, _ => (n a rfl).elim
end Mn

namespace Mn
open PySem L2 RZ PyProof.Rows
variable {X : Cx}
theorem vals_of_at' : ∀ {xs : List V} {us : List Value}, xs.length = us.length → (∀ (j : Nat) (x : V) (u : Value), xs[j]? = some x → us[j]? = some u → RelV x u) → Vals xs us
  | [], [], _, _ => .nil
  | [], _ :: _, h, _ => by simp at h
  | _ :: _, [], h, _ => by simp at h
  | x :: xs, u :: us, h, f => .cons (f 0 x u rfl rfl) (vals_of_at' (by simpa using h) fun j y w h1 h2 => f (j + 1) y w (by simpa using h1) (by simpa using h2))
theorem cr_range1 : CallR X (.type "range") (fun vs H Q => ∃ n : Int, vs = [V.int n] ∧ ∀ p, H p = none → Q (.ref p) (upd H p (.rng 0 n))) := by
  intro pins s σ H vs us Q I r h
  obtain ⟨n, rfl, q⟩ := h
  obtain ⟨u, rfl, t, rfl⟩ := vals1 r
  refine call_range_1 ⟨.ref s.heap.objs.size, upd H s.heap.objs.size (.rng 0 n), I.laid (t' := s.toks + 1 + 1) (fun b o e => Heap.get?_push_of_some _ e) (by omega) ?_, rfl, q _ (I.hok.fresh (Nat.le_refl _))⟩
  exact ⟨_, _, _, Heap.get?_push_size _ rfl⟩
theorem cr_list_rng (hc : X.calm = true) : CallR X (.type "list") (fun xs H Q => ∃ (r : Addr) (n : Int), xs = [V.ref r] ∧ H r = some (.rng 0 n) ∧ -1000000 < n ∧ n < 1000000 ∧ ∀ p, H p = none → Q (.ref p) (upd H p (.lst ((List.range n.toNat).map fun (k : Nat) => V.int k)))) := by
  intro pins s σ H xs us Q I r h
  obtain ⟨a, n, rfl, hr, h0, h1, q⟩ := h
  obtain ⟨u, rfl, rx⟩ := r.one
  cases rx
  obtain ⟨t1, t2, t3, hg⟩ := (show ObjOk X.prog X.w H s.heap a (.rng 0 n) from I.hok a _ hr)
  refine call_list_range (n := n.toNat) (I.ok.hd hc) hg ?_ ?_ (by omega) fun h' tk acc' c' hk hS hacc => ?_
  · unfold Builtin.Range.small
    rw [rangeSize_one]
    unfold Builtin.Range.rangeFitsLong
    split <;> simp <;> omega
  · unfold Builtin.Range.rangeSize
    simp only [show (1 : Int) > 0 by decide, if_true, Int.ediv_one]
    split <;> omega
  refine ⟨.ref s.heap.objs.size, _, I.laid (t' := tk) (o := .lst ((List.range n.toNat).map fun (k : Nat) => V.int k)) hk (Nat.le_refl _) ⟨?_, acc'.toList, c', ?_, ?_⟩, rfl, q _ (I.hok.fresh (Nat.le_refl _))⟩
  · rw [List.length_map, List.length_range]
    exact Nat.le_trans (show n.toNat ≤ 1000000 by omega) lim_le
  · refine vals_of_at' ?_ fun j x u hx hu => ?_
    · rw [List.length_map, List.length_range, Array.length_toList, hacc.1]
    · rw [List.getElem?_map] at hx
      obtain ⟨t, e⟩ := hacc.2 j u (by rw [← Array.getElem?_toList]; exact hu)
      cases hj : (List.range n.toNat)[j]? with
      | none => rw [hj] at hx; cases hx
      | some k =>
        rw [hj] at hx
        have ej : j = k := by
          obtain ⟨h1, h2⟩ := List.getElem?_eq_some_iff.1 hj
          rw [List.getElem_range] at h2
          exact h2
        cases hx
        subst ej
        rw [e]
        refine ⟨t, ?_⟩
        show Value.int (0 + (j : Int) * 1) t = _
        rw [Int.zero_add, Int.mul_one]
  · rw [Array.toArray_toList]; exact hS
end Mn

namespace Mn
open PySem L2
variable {C : Ctx} {H H' : Hp} {B M B' M' : AP'} {σ : L2.St} {env env' : Env}

theorem mutS_own {i : Nat} {xs : List D} (h : env[i]? = some (some (Sl.own xs))) : mutS env i = some xs := by unfold mutS; rw [h]
theorem mutS_par {i : Nat} {xs : List D} (h : env[i]? = some (some (Sl.par xs))) : mutS env i = some xs := by unfold mutS; rw [h]
theorem mutS_some {i : Nat} {xs : List D} (h : mutS env i = some xs) : env[i]? = some (some (Sl.own xs)) ∨ env[i]? = some (some (Sl.par xs)) := by
  unfold mutS at h
  split at h
  · cases h; exact .inl (by assumption)
  · cases h; exact .inr (by assumption)
  · cases h
theorem mutS_set_ne {i j : Nat} {s : Option Sl} (h : j ≠ i) : mutS (env.set i s) j = mutS env j := by
  unfold mutS; rw [List.getElem?_set_ne (Ne.symm h)]
theorem set_get {i j : Nat} {s t : Option Sl} (h : (env.set i s)[j]? = some t) : (j = i ∧ t = s) ∨ (j ≠ i ∧ env[j]? = some t) := by
  by_cases e : j = i
  · subst e
    by_cases hl : j < env.length
    · rw [List.getElem?_set_self hl] at h; exact .inl ⟨rfl, (Option.some.inj h).symm⟩
    · rw [List.getElem?_eq_none (by simpa using hl)] at h; cases h
  · rw [List.getElem?_set_ne (Ne.symm e)] at h; exact .inr ⟨e, h⟩
theorem Sim.lt (s : Sim C H B M σ env) {i : Nat} {t : Option Sl} (h : env[i]? = some t) : i < σ.length := by
  rw [s.len]; exact (List.getElem?_eq_some_iff.mp h).1
/-- a list of one's own, no longer to be changed -/
theorem Sim.freeze (s : Sim C H B M σ env) {i : Nat} {xs : List D} (h : env[i]? = some (some (Sl.own xs))) :
    ∃ a, σ[i]? = some (some (.ref a)) ∧ Sim C H (fun b => B b ∧ b ≠ a) (fun b => M b ∧ b ≠ a) σ (env.set i (some (.val (.lst xs)))) ∧ Rep C.K H (fun b => B b ∧ b ≠ a) (.lst xs) (.ref a) := by
  obtain ⟨a, vs, e, q, r, m, n⟩ := s.own i xs h
  have sub : ∀ b, (B b ∧ b ≠ a) → B b := fun b z => z.1
  have hr : Rep C.K H (fun b => B b ∧ b ≠ a) (.lst xs) (.ref a) := ⟨a, vs, rfl, q, fun z => z.2 rfl, r.less s.bl sub⟩
  have ap : ∀ (j : Nat) (ys : List D) (b : Addr), j ≠ i → mutS env j = some ys → σ[j]? = some (some (.ref b)) → b ≠ a := fun j ys b ne hm hb z => by
    subst z; exact ne (s.inj j i ys xs b hm (mutS_own h) hb e)
  refine ⟨a, e, ⟨by rw [s.len, List.length_set], fun b z => s.bl b z.1, fun b z => ⟨s.mb b z.1, z.2⟩, fun b z => ⟨s.lo b z, fun y => n (y ▸ z)⟩, fun j d hj => ?_, fun j ys hj => ?_, fun j ys hj => ?_, fun j k xs' ys b hj hk h1 h2 => ?_, fun b o h => ⟨(s.kp b o h).1, fun z => (s.kp b o h).2 z.1⟩, fun d v h => (s.ex d v h).less s.bl sub, fun j hj => by
    rcases set_get hj with ⟨rfl, e2⟩ | ⟨ne, hj⟩
    · cases e2
    · exact s.sl j hj⟩, hr⟩
  · rcases set_get hj with ⟨rfl, e2⟩ | ⟨ne, hj⟩
    · cases e2; exact ⟨_, e, hr⟩
    · obtain ⟨v, e1, r1⟩ := s.val j d hj
      exact ⟨v, e1, r1.less s.bl sub⟩
  · rcases set_get hj with ⟨rfl, e2⟩ | ⟨ne, hj⟩
    · cases e2
    · obtain ⟨b, ws, e1, q1, r1, m1, n1⟩ := s.own j ys hj
      exact ⟨b, ws, e1, q1, r1.less s.bl sub, ⟨m1, ap j ys b ne (mutS_own hj) e1⟩, n1⟩
  · rcases set_get hj with ⟨rfl, e2⟩ | ⟨ne, hj⟩
    · cases e2
    · obtain ⟨b, ws, p, e1, q1, r1, m1⟩ := s.par j ys hj
      exact ⟨b, ws, p, e1, q1, r1.less s.bl sub, ⟨m1, ap j ys b ne (mutS_par hj) e1⟩⟩
  · by_cases ej : j = i
    · subst ej
      rcases mutS_some hj with z | z <;> (rcases set_get z with ⟨_, e2⟩ | ⟨ne, _⟩ <;> first | cases e2 | exact absurd rfl ne)
    · by_cases ek : k = i
      · subst ek
        rcases mutS_some hk with z | z <;> (rcases set_get z with ⟨_, e2⟩ | ⟨ne, _⟩ <;> first | cases e2 | exact absurd rfl ne)
      · rw [mutS_set_ne ej] at hj; rw [mutS_set_ne ek] at hk
        exact s.inj j k _ _ b hj hk h1 h2
theorem nx_freeze (a : Addr) : Nx H B M H (fun b => B b ∧ b ≠ a) (fun b => M b ∧ b ≠ a) := ⟨fun _ _ h _ => h, fun _ h => .inl h.1, fun _ h => .inl h.1, fun _ h => h⟩
theorem putS_some {i : Nat} {t : Sl} (h : putS env i t = some env') : env' = env.set i (some t) ∧ (∃ o, env[i]? = some o ∧ ∀ xs, o ≠ some (.par xs)) := by
  unfold putS at h
  split at h
  · cases h
  · cases h
  · rename_i o ne _ ho
    cases h; exact ⟨rfl, ⟨_, by assumption, fun xs e => by subst e; simp_all⟩⟩
  · cases h
/-- a datum is stored -/
theorem Sim.putVal (s : Sim C H B M σ env) {i : Nat} {d : D} {v : V} (h : putS env i (.val d) = some env') (r : Rep C.K H B d v) : Sim C H B M (σ.set i (some v)) env' := by
  obtain ⟨rfl, o, ho, _⟩ := putS_some h
  have hl := s.lt ho
  have gs : ∀ {j : Nat} {w : Option V}, j ≠ i → σ[j]? = some w → (σ.set i (some v))[j]? = some w := fun ne e => by rw [List.getElem?_set_ne (Ne.symm ne)]; exact e
  have sg : ∀ {j : Nat} {w : Option V}, j ≠ i → (σ.set i (some v))[j]? = some w → σ[j]? = some w := fun ne e => by rw [List.getElem?_set_ne (Ne.symm ne)] at e; exact e
  refine ⟨by rw [List.length_set, List.length_set]; exact s.len, s.bl, s.mb, s.lo, fun j d' hj => ?_, fun j ys hj => ?_, fun j ys hj => ?_, fun j k xs' ys b hj hk h1 h2 => ?_, s.kp, s.ex, fun j hj => ?_⟩
  rotate_left 4
  · rcases set_get hj with ⟨rfl, e2⟩ | ⟨ne, hj⟩
    · cases e2
    · obtain ⟨b, p, e1⟩ := s.sl j hj; exact ⟨b, p, gs ne e1⟩
  · rcases set_get hj with ⟨rfl, e2⟩ | ⟨ne, hj⟩
    · cases e2; exact ⟨v, List.getElem?_set_self hl, r⟩
    · obtain ⟨w, e1, r1⟩ := s.val j d' hj; exact ⟨w, gs ne e1, r1⟩
  · rcases set_get hj with ⟨rfl, e2⟩ | ⟨ne, hj⟩
    · cases e2
    · obtain ⟨b, ws, e1, q⟩ := s.own j ys hj; exact ⟨b, ws, gs ne e1, q⟩
  · rcases set_get hj with ⟨rfl, e2⟩ | ⟨ne, hj⟩
    · cases e2
    · obtain ⟨b, ws, p, e1, q⟩ := s.par j ys hj; exact ⟨b, ws, p, gs ne e1, q⟩
  · by_cases ej : j = i
    · subst ej
      rcases mutS_some hj with z | z <;> (rcases set_get z with ⟨_, e2⟩ | ⟨ne, _⟩ <;> first | cases e2 | exact absurd rfl ne)
    · by_cases ek : k = i
      · subst ek
        rcases mutS_some hk with z | z <;> (rcases set_get z with ⟨_, e2⟩ | ⟨ne, _⟩ <;> first | cases e2 | exact absurd rfl ne)
      · rw [mutS_set_ne ej] at hj; rw [mutS_set_ne ek] at hk
        exact s.inj j k _ _ b hj hk (sg ej h1) (sg ek h2)
/-- a new list is stored, to be changed later -/
theorem Sim.putOwn {p : Addr} {vs : List V} (s : Sim C H (ins p B) M σ env) {i : Nat} {xs : List D} (h : putS env i (.own xs) = some env') (hp : H p = some (.lst vs)) (r : RepL C.K H (ins p B) xs vs) (nb : ¬ B p) (mb : ∀ a, M a → B a) (lo : ∀ a, C.B0 a → B a) :
    Sim C H (ins p B) (ins p M) (σ.set i (some (.ref p))) env' := by
  obtain ⟨rfl, o, ho, _⟩ := putS_some h
  have hl := s.lt ho
  have gs : ∀ {j : Nat} {w : Option V}, j ≠ i → σ[j]? = some w → (σ.set i (some (.ref p)))[j]? = some w := fun ne e => by rw [List.getElem?_set_ne (Ne.symm ne)]; exact e
  have sg : ∀ {j : Nat} {w : Option V}, j ≠ i → (σ.set i (some (.ref p)))[j]? = some w → σ[j]? = some w := fun ne e => by rw [List.getElem?_set_ne (Ne.symm ne)] at e; exact e
  have si : (σ.set i (some (.ref p)))[i]? = some (some (.ref p)) := List.getElem?_set_self hl
  have far : ∀ {j : Nat} {ys : List D}, mutS env j = some ys → σ[j]? ≠ some (some (.ref p)) := fun {j ys} hm e => by
    obtain ⟨a, ws, e1, _, _, m⟩ := s.mut hm
    rw [e] at e1; cases e1; exact nb (mb p m)
  refine ⟨by rw [List.length_set, List.length_set]; exact s.len, s.bl, fun a z => z.elim .inl fun z => .inr (mb a z), s.lo, fun j d' hj => ?_, fun j ys hj => ?_, fun j ys hj => ?_, fun j k xs' ys b hj hk h1 h2 => ?_, fun b o h => ⟨(s.kp b o h).1, fun z => z.elim (fun e => by have k := (s.kp b o h).1; rw [e, hp] at k; cases k) (s.kp b o h).2⟩, s.ex, fun j hj => ?_⟩
  rotate_left 4
  · rcases set_get hj with ⟨rfl, e2⟩ | ⟨ne, hj⟩
    · cases e2
    · obtain ⟨b, p, e1⟩ := s.sl j hj; exact ⟨b, p, gs ne e1⟩
  · rcases set_get hj with ⟨rfl, e2⟩ | ⟨ne, hj⟩
    · cases e2
    · obtain ⟨w, e1, r1⟩ := s.val j d' hj; exact ⟨w, gs ne e1, r1⟩
  · rcases set_get hj with ⟨rfl, e2⟩ | ⟨ne, hj⟩
    · cases e2; exact ⟨p, vs, si, hp, r, .inl rfl, fun z => nb (lo p z)⟩
    · obtain ⟨b, ws, e1, q1, r1, m1, n1⟩ := s.own j ys hj; exact ⟨b, ws, gs ne e1, q1, r1, .inr m1, n1⟩
  · rcases set_get hj with ⟨rfl, e2⟩ | ⟨ne, hj⟩
    · cases e2
    · obtain ⟨b, ws, p', e1, q1, r1, m1⟩ := s.par j ys hj; exact ⟨b, ws, p', gs ne e1, q1, r1, .inr m1⟩
  · by_cases ej : j = i
    · subst ej
      by_cases ek : k = j
      · exact ek.symm
      · rw [mutS_set_ne ek] at hk
        rw [si] at h1; cases h1
        exact absurd (sg ek h2) (far hk)
    · by_cases ek : k = i
      · subst ek
        rw [mutS_set_ne ej] at hj
        rw [si] at h2; cases h2
        exact absurd (sg ej h1) (far hj)
      · rw [mutS_set_ne ej] at hj; rw [mutS_set_ne ek] at hk
        exact s.inj j k _ _ b hj hk (sg ej h1) (sg ek h2)
theorem ins_ins (p : Addr) : Nx H B M H (ins p B) (ins p M) → True := fun _ => trivial

/-! ### lists that were changed -/
def RefR (σ : L2.St) : List Nat → List Addr → Prop
  | [], ps => ps = []
  | i :: is, ps => ∃ a t, ps = a :: t ∧ σ[i]? = some (some (.ref a)) ∧ RefR σ is t
def OutR (K : PySem.W.Frag) (H : Hp) (B : AP') : List (List D) → List Addr → Prop
  | [], ps => ps = []
  | xs :: r, ps => ∃ a t ws, ps = a :: t ∧ H a = some (.lst ws) ∧ RepL K H B xs ws ∧ OutR K H B r t
theorem setM_get {i j : Nat} {xs : List D} {s : Sl} (h : (setM env i xs)[j]? = some (some s)) :
    (j = i ∧ ((∃ ys, env[i]? = some (some (.own ys)) ∧ s = .own xs) ∨ ∃ ys, env[i]? = some (some (.par ys)) ∧ s = .par xs)) ∨ ((j ≠ i ∨ mutS env i = none) ∧ env[j]? = some (some s)) := by
  unfold setM at h
  split at h
  · rcases set_get h with ⟨rfl, e⟩ | ⟨ne, e⟩
    · cases e; exact .inl ⟨rfl, .inl ⟨_, by assumption, rfl⟩⟩
    · exact .inr ⟨.inl ne, e⟩
  · rcases set_get h with ⟨rfl, e⟩ | ⟨ne, e⟩
    · cases e; exact .inl ⟨rfl, .inr ⟨_, by assumption, rfl⟩⟩
    · exact .inr ⟨.inl ne, e⟩
  · rename_i n1 n2
    refine .inr ⟨.inr ?_, h⟩
    unfold mutS
    split
    · exact absurd (by assumption) (n1 _)
    · exact absurd (by assumption) (n2 _)
    · rfl
theorem setM_len {i : Nat} {xs : List D} : (setM env i xs).length = env.length := by
  unfold setM; split <;> simp
theorem setM_ne {i j : Nat} {xs : List D} (h : j ≠ i) : (setM env i xs)[j]? = env[j]? := by
  unfold setM; split <;> first | rfl | exact List.getElem?_set_ne (Ne.symm h)
/-- what stands in a slot behind the changes -/
theorem putBack_get : ∀ {is : List Nat} {outs : List (List D)} {env env' : Env}, is.Nodup → putBack is outs env = some env' → env'.length = env.length ∧ ∀ (j : Nat) (s : Sl), env'[j]? = some (some s) →
    (∃ (k : Nat) (xs : List D), is[k]? = some j ∧ outs[k]? = some xs ∧ ((∃ ys, env[j]? = some (some (.own ys)) ∧ s = .own xs) ∨ ∃ ys, env[j]? = some (some (.par ys)) ∧ s = .par xs)) ∨ ((j ∉ is ∨ mutS env j = none) ∧ env[j]? = some (some s))
  | [], [], env, env', _, h => by
    cases h; exact ⟨rfl, fun j s hj => .inr ⟨.inl (by simp), hj⟩⟩
  | [], _ :: _, _, _, _, h => by cases h
  | _ :: _, [], _, _, _, h => by cases h
  | i :: is, xs :: r, env, env', nd, h => by
    have nd2 := List.nodup_cons.mp nd
    have h' : putBack is r (setM env i xs) = some env' := h
    obtain ⟨hl, ih⟩ := putBack_get nd2.2 h'
    refine ⟨hl.trans setM_len, fun j s hj => ?_⟩
    rcases ih j s hj with ⟨k, ys, e1, e2, q⟩ | ⟨q1, q2⟩
    · have ne : j ≠ i := fun z => nd2.1 (by rw [← z]; exact List.mem_of_getElem? e1)
      rw [setM_ne ne] at q
      exact .inl ⟨k + 1, ys, by simpa using e1, by simpa using e2, q⟩
    · rcases setM_get q2 with ⟨rfl, q⟩ | ⟨q, e⟩
      · exact .inl ⟨0, xs, rfl, rfl, q⟩
      · by_cases ne : j = i
        · subst ne
          rcases q with q | q
          · exact absurd rfl q
          · exact .inr ⟨.inr q, e⟩
        · refine .inr ⟨?_, e⟩
          rcases q1 with q1 | q1
          · exact .inl (by simp only [List.mem_cons, not_or]; exact ⟨ne, q1⟩)
          · right
            unfold mutS at q1 ⊢
            rw [setM_ne ne] at q1; exact q1
theorem RefR.get : ∀ {is : List Nat} {ps : List Addr} {k i : Nat}, RefR σ is ps → is[k]? = some i → ∃ a, ps[k]? = some a ∧ σ[i]? = some (some (.ref a))
  | [], _, _, _, _, e => by simp at e
  | j :: is, _, 0, i, h, e => by
    obtain ⟨a, t, rfl, h1, _⟩ := h
    simp at e; subst e; exact ⟨a, rfl, h1⟩
  | j :: is, _, k + 1, i, h, e => by
    obtain ⟨a, t, rfl, _, h1⟩ := h
    obtain ⟨b, e1, e2⟩ := RefR.get (k := k) h1 (by simpa using e)
    exact ⟨b, by simpa using e1, e2⟩
theorem RefR.get' : ∀ {is : List Nat} {ps : List Addr} {a : Addr}, RefR σ is ps → a ∈ ps → ∃ i, i ∈ is ∧ σ[i]? = some (some (.ref a))
  | [], _, _, h, e => by rw [show _ = _ from h] at e; cases e
  | j :: is, _, a, h, e => by
    obtain ⟨b, t, rfl, h1, h2⟩ := h
    rcases List.mem_cons.mp e with rfl | e
    · exact ⟨j, List.mem_cons_self, h1⟩
    · obtain ⟨i, hi, q⟩ := RefR.get' h2 e
      exact ⟨i, List.mem_cons_of_mem _ hi, q⟩
theorem OutR.get {K : PySem.W.Frag} : ∀ {outs : List (List D)} {ps : List Addr} {k : Nat} {xs : List D} {a : Addr}, OutR K H B outs ps → outs[k]? = some xs → ps[k]? = some a → ∃ ws, H a = some (.lst ws) ∧ RepL K H B xs ws
  | [], _, _, _, _, _, e, _ => by simp at e
  | j :: is, _, 0, xs, a, h, e, e2 => by
    obtain ⟨b, t, ws, rfl, h1, h2, _⟩ := h
    simp at e e2; subst e; subst e2; exact ⟨ws, h1, h2⟩
  | j :: is, _, k + 1, xs, a, h, e, e2 => by
    obtain ⟨b, t, ws, rfl, _, _, h1⟩ := h
    exact OutR.get (k := k) h1 (by simpa using e) (by simpa using e2)
/-- behind a call that changed the lists at ps -/
theorem Sim.out (s : Sim C H B M σ env) {is : List Nat} {ps : List Addr} {outs : List (List D)} (nd : is.Nodup) (hm : ∀ i ∈ is, mutS env i ≠ none) (hr : RefR σ is ps) (ho : OutR C.K H' B outs ps) (keep : ∀ a o, H a = some o → a ∉ ps → H' a = some o) (al : ∀ a, H' a = none → H a = none)
    (pb : putBack is outs env = some env') : Sim C H' B M σ env' ∧ Nx H B M H' B M := by
  obtain ⟨hl, get⟩ := putBack_get nd pb
  have pm : ∀ a ∈ ps, M a ∧ ∃ i xs, i ∈ is ∧ mutS env i = some xs ∧ σ[i]? = some (some (.ref a)) := fun a ha => by
    obtain ⟨i, hi, e⟩ := hr.get' ha
    cases z : mutS env i with
    | none => exact absurd z (hm i hi)
    | some xs =>
      obtain ⟨b, ws, e1, _, _, m⟩ := s.mut z
      rw [e] at e1; cases e1; exact ⟨m, i, xs, hi, z, e⟩
  have nx : Nx H B M H' B M := ⟨fun a o h nm => keep a o h fun z => nm (pm a z).1, fun _ h => .inl h, fun _ h => .inl h, al⟩
  have apart : ∀ {j : Nat} {ys : List D} {a : Addr}, mutS env j = some ys → j ∉ is → σ[j]? = some (some (.ref a)) → a ∉ ps := fun {j ys a} hj ni e ha => by
    obtain ⟨_, i, xs, hi, z, e1⟩ := pm a ha
    exact ni (s.inj j i _ _ a hj z e e1 ▸ hi)
  have stay : ∀ {j : Nat} {ys : List D} {a : Addr} {ws : List V}, mutS env j = some ys → (j ∉ is ∨ mutS env j = none) → σ[j]? = some (some (.ref a)) → H a = some (.lst ws) → H' a = some (.lst ws) := fun {j ys a ws} hj q e h =>
    keep a _ h (q.elim (fun q => apart hj q e) fun q => by rw [hj] at q; cases q)
  have back : ∀ {j : Nat} {ys : List D}, mutS env' j = some ys → ∃ zs, mutS env j = some zs := fun {j ys} hj => by
    rcases mutS_some hj with z | z <;>
    · rcases get j _ z with ⟨k, xs, _, _, (⟨zs, e, _⟩ | ⟨zs, e, _⟩)⟩ | ⟨_, e⟩
      · exact ⟨zs, mutS_own e⟩
      · exact ⟨zs, mutS_par e⟩
      · first | exact ⟨_, mutS_own e⟩ | exact ⟨_, mutS_par e⟩
  refine ⟨⟨s.len.trans hl.symm, fun a h => ?_, s.mb, s.lo, fun j d hj => ?_, fun j ys hj => ?_, fun j ys hj => ?_, fun j k xs' ys b hj hk h1 h2 => ?_, fun b o h => ⟨keep b _ (s.kp b o h).1 fun z => (s.kp b o h).2 (pm b z).1, (s.kp b o h).2⟩, fun d v h => Rep.nx s.bl s.mb nx d v (s.ex d v h), fun j hj => by
    rcases get j _ hj with ⟨k, xs, _, _, (⟨_, _, e⟩ | ⟨_, _, e⟩)⟩ | ⟨_, e⟩
    · cases e
    · cases e
    · exact s.sl j e⟩, nx⟩
  · obtain ⟨vs, e⟩ := s.bl a h
    by_cases ha : a ∈ ps
    · obtain ⟨_, i, xs, hi, z, e1⟩ := pm a ha
      obtain ⟨k, hk⟩ := List.getElem?_of_mem hi
      obtain ⟨b, hb, e2⟩ := hr.get hk
      rw [e1] at e2; cases e2
      cases hx : outs[k]? with
      | none =>
        have l1 : ps.length ≤ k := by
          have : ∀ {o : List (List D)} {p : List Addr}, OutR C.K H' B o p → p.length = o.length := by
            intro o; induction o with
            | nil => intro p h; rw [show p = [] from h]; rfl
            | cons x r ih => intro p h; obtain ⟨a', t, ws, rfl, _, _, h2⟩ := h; simp [ih h2]
          rw [this ho]; exact List.getElem?_eq_none_iff.mp hx
        rw [List.getElem?_eq_none l1] at hb; cases hb
      | some xs' => obtain ⟨ws, q, _⟩ := ho.get hx hb; exact ⟨.l ws, q⟩
    · exact ⟨vs, keep a _ e ha⟩
  · rcases get j _ hj with ⟨k, xs, _, _, (⟨_, _, e⟩ | ⟨_, _, e⟩)⟩ | ⟨_, e⟩
    · cases e
    · cases e
    · obtain ⟨v, e1, r⟩ := s.val j d e; exact ⟨v, e1, Rep.nx s.bl s.mb nx d v r⟩
  · rcases get j _ hj with ⟨k, xs, e1, e2, (⟨zs, e, q⟩ | ⟨_, _, e⟩)⟩ | ⟨q, e⟩
    · cases q
      obtain ⟨a, ws, h1, h2, h3, h4, h5⟩ := s.own j _ e
      obtain ⟨b, hb, e3⟩ := hr.get e1
      rw [h1] at e3; cases e3
      obtain ⟨ws', q1, q2⟩ := ho.get e2 hb
      exact ⟨a, ws', h1, q1, q2, h4, h5⟩
    · cases e
    · obtain ⟨a, ws, h1, h2, h3, h4, h5⟩ := s.own j _ e
      exact ⟨a, ws, h1, stay (mutS_own e) q h1 h2, RepL.nx s.bl s.mb nx _ _ h3, h4, h5⟩
  · rcases get j _ hj with ⟨k, xs, e1, e2, (⟨_, _, e⟩ | ⟨zs, e, q⟩)⟩ | ⟨q, e⟩
    · cases e
    · cases q
      obtain ⟨a, ws, p, h1, h2, h3, h4⟩ := s.par j _ e
      obtain ⟨b, hb, e3⟩ := hr.get e1
      rw [h1] at e3; cases e3
      obtain ⟨ws', q1, q2⟩ := ho.get e2 hb
      exact ⟨a, ws', p, h1, q1, q2, h4⟩
    · obtain ⟨a, ws, p, h1, h2, h3, h4⟩ := s.par j _ e
      exact ⟨a, ws, p, h1, stay (mutS_par e) q h1 h2, RepL.nx s.bl s.mb nx _ _ h3, h4⟩
  · obtain ⟨z1, hj⟩ := back hj
    obtain ⟨z2, hk⟩ := back hk
    exact s.inj j k _ _ b hj hk h1 h2
/-- one list changed -/
theorem Sim.setM (s : Sim C H B M σ env) {i : Nat} {xs ys : List D} {a : Addr} {ws : List V} (hm : mutS env i = some xs) (e : σ[i]? = some (some (.ref a))) (r : RepL C.K H B ys ws) (hw : ∃ vs, H a = some (.lst vs)) :
    Sim C (upd H a (.lst ws)) B M σ (Mn.setM env i ys) ∧ Nx H B M (upd H a (.lst ws)) B M := by
  have ma : M a := by
    obtain ⟨b, vs, e1, _, _, m⟩ := s.mut hm
    rw [e] at e1; cases e1; exact m
  have nx : Nx H B M (upd H a (.lst ws)) B M := ⟨fun b o h nm => by rw [upd_ne (show b ≠ a from fun z => nm (by rw [z]; exact ma))]; exact h, fun _ h => .inl h, fun _ h => .inl h, fun b h => upd_none h⟩
  refine s.out (is := [i]) (ps := [a]) (outs := [ys]) (by simp) (fun j hj => ?_) ⟨a, [], rfl, e, rfl⟩ ⟨a, [], ws, rfl, upd_same, RepL.nx s.bl s.mb nx _ _ r, rfl⟩ (fun b o h nb => ?_) (fun b h => upd_none h) rfl
  · rw [List.mem_singleton.mp hj, hm]; simp
  · rw [upd_ne (by simpa using nb)]; exact h
theorem Sim.peek (s : Sim C H B M σ env) {i : Nat} {d : D} (h : peek env i = some d) : ∃ v, σ[i]? = some (some v) ∧ Rep C.K H (fun _ => False) d v := by
  unfold Mn.peek at h
  split at h
  · cases h
    obtain ⟨v, e, r⟩ := s.val i _ (by assumption)
    exact ⟨v, e, r.less s.bl fun _ z => z.elim⟩
  · cases h
    obtain ⟨a, vs, e, q, r, _⟩ := s.own i _ (by assumption)
    exact ⟨_, e, a, vs, rfl, q, fun z => z, r.less s.bl fun _ z => z.elim⟩
  · cases h
    obtain ⟨a, vs, _, e, q, r, _⟩ := s.par i _ (by assumption)
    exact ⟨_, e, a, vs, rfl, q, fun z => z, r.less s.bl fun _ z => z.elim⟩
  · cases h
end Mn

namespace Mn
open PySem L2 RZ
variable {C : Ctx} {H H' : Hp} {B M B' M' : AP'} {σ σ' : L2.St} {env env' e0 : Env}

/-! ### a comprehension's own slots -/
theorem wipeE_len : ∀ {vs : List Nat}, (wipeE env vs).length = env.length
  | [] => rfl
  | v :: vs => by unfold wipeE; rw [List.length_set, wipeE_len]
theorem wipeE_get {i : Nat} {s : Sl} : ∀ {vs : List Nat}, (wipeE env vs)[i]? = some (some s) → env[i]? = some (some s) ∧ i ∉ vs
  | [], h => ⟨h, by simp⟩
  | v :: vs, h => by
    unfold wipeE at h
    rcases set_get h with ⟨_, e⟩ | ⟨ne, e⟩
    · cases e
    · obtain ⟨h1, h2⟩ := wipeE_get e
      exact ⟨h1, by simp only [List.mem_cons, not_or]; exact ⟨ne, h2⟩⟩
theorem wipeE_mut {i : Nat} {xs : List D} {vs : List Nat} (h : mutS (wipeE env vs) i = some xs) : mutS env i = some xs ∧ i ∉ vs := by
  rcases mutS_some h with z | z
  · obtain ⟨h1, h2⟩ := wipeE_get z; exact ⟨mutS_own h1, h2⟩
  · obtain ⟨h1, h2⟩ := wipeE_get z; exact ⟨mutS_par h1, h2⟩
theorem Sim.wipe (s : Sim C H B M σ env) (vs : List Nat) : Sim C H B M (wipe σ vs) (wipeE env vs) where
  len := by rw [wipe_length, wipeE_len]; exact s.len
  bl := s.bl
  mb := s.mb
  lo := s.lo
  val := fun i d h => let ⟨h1, h2⟩ := wipeE_get h; let ⟨v, e, r⟩ := s.val i d h1; ⟨v, by rw [wipe_out h2]; exact e, r⟩
  own := fun i d h => let ⟨h1, h2⟩ := wipeE_get h; let ⟨a, v, e, r⟩ := s.own i d h1; ⟨a, v, by rw [wipe_out h2]; exact e, r⟩
  par := fun i d h => let ⟨h1, h2⟩ := wipeE_get h; let ⟨a, v, p, e, r⟩ := s.par i d h1; ⟨a, v, p, by rw [wipe_out h2]; exact e, r⟩
  inj := fun i j xs ys a h1 h2 e1 e2 => by
    obtain ⟨m1, n1⟩ := wipeE_mut h1
    obtain ⟨m2, n2⟩ := wipeE_mut h2
    rw [wipe_out n1] at e1; rw [wipe_out n2] at e2
    exact s.inj i j xs ys a m1 m2 e1 e2
  kp := s.kp
  ex := s.ex
  sl := fun i h => let ⟨h1, h2⟩ := wipeE_get h; let ⟨a, p, e⟩ := s.sl i h1; ⟨a, p, by rw [wipe_out h2]; exact e⟩
theorem backE_len : ∀ {vs : List Nat}, (backE e0 env vs).length = env.length
  | [] => rfl
  | v :: vs => by unfold backE; rw [List.length_set, backE_len]
theorem backE_get {i : Nat} {s : Sl} : ∀ {vs : List Nat}, (backE e0 env vs)[i]? = some (some s) → (i ∈ vs ∧ e0[i]? = some (some s)) ∨ (i ∉ vs ∧ env[i]? = some (some s))
  | [], h => .inr ⟨by simp, h⟩
  | v :: vs, h => by
    unfold backE at h
    rcases set_get h with ⟨rfl, e⟩ | ⟨ne, e⟩
    · refine .inl ⟨List.mem_cons_self, ?_⟩
      cases z : e0[i]? with
      | none => rw [z] at e; cases e
      | some o => rw [z] at e; exact congrArg some e.symm
    · rcases backE_get e with ⟨h1, h2⟩ | ⟨h1, h2⟩
      · exact .inl ⟨List.mem_cons_of_mem _ h1, h2⟩
      · exact .inr ⟨by simp only [List.mem_cons, not_or]; exact ⟨ne, h1⟩, h2⟩
theorem wipe_eq {vs : List Nat} (h : L2.wipe σ' vs = L2.wipe σ vs) {i : Nat} (hi : i ∉ vs) : σ'[i]? = σ[i]? := by
  rw [← wipe_out (σ := σ') hi, ← wipe_out (σ := σ) hi, h]
/-- behind a turn: the own slots as they were -/
theorem Sim.back {H0 : Hp} {B0 M0 : AP'} (s0 : Sim C H0 B0 M0 σ e0) (s : Sim C H B M σ' env) {vs : List Nat} (nm : ∀ i ∈ vs, mutS e0 i = none) (n : Nx H0 B0 M0 H B M) (w : L2.wipe σ' vs = L2.wipe σ vs) (hl : env.length = e0.length) : Sim C H B M σ (backE e0 env vs) := by
  have nmu : ∀ {i : Nat} {xs : List D}, mutS (backE e0 env vs) i = some xs → i ∉ vs ∧ mutS env i = some xs := fun {i xs} h => by
    rcases mutS_some h with z | z
    · rcases backE_get z with ⟨h1, h2⟩ | ⟨h1, h2⟩
      · have := nm i h1; rw [mutS_own h2] at this; cases this
      · exact ⟨h1, mutS_own h2⟩
    · rcases backE_get z with ⟨h1, h2⟩ | ⟨h1, h2⟩
      · have := nm i h1; rw [mutS_par h2] at this; cases this
      · exact ⟨h1, mutS_par h2⟩
  refine ⟨by rw [backE_len, hl]; exact s0.len, s.bl, s.mb, s.lo, fun i d h => ?_, fun i xs h => ?_, fun i xs h => ?_, fun i j xs ys a h1 h2 e1 e2 => ?_, s.kp, s.ex, fun i h => ?_⟩
  rotate_left 4
  · rcases backE_get h with ⟨h1, h2⟩ | ⟨h1, h2⟩
    · exact s0.sl i h2
    · obtain ⟨a, p, e⟩ := s.sl i h2
      exact ⟨a, p, by rw [← wipe_eq w h1]; exact e⟩
  · rcases backE_get h with ⟨h1, h2⟩ | ⟨h1, h2⟩
    · obtain ⟨v, e, r⟩ := s0.val i d h2
      exact ⟨v, e, Rep.nx s0.bl s0.mb n d v r⟩
    · obtain ⟨v, e, r⟩ := s.val i d h2
      exact ⟨v, by rw [← wipe_eq w h1]; exact e, r⟩
  · obtain ⟨h1, h2⟩ := nmu (mutS_own h)
    rcases backE_get h with ⟨h3, _⟩ | ⟨_, h2⟩
    · exact absurd h3 h1
    · obtain ⟨a, v, e, r⟩ := s.own i xs h2
      exact ⟨a, v, by rw [← wipe_eq w h1]; exact e, r⟩
  · obtain ⟨h1, h2⟩ := nmu (mutS_par h)
    rcases backE_get h with ⟨h3, _⟩ | ⟨_, h2⟩
    · exact absurd h3 h1
    · obtain ⟨a, v, p, e, r⟩ := s.par i xs h2
      exact ⟨a, v, p, by rw [← wipe_eq w h1]; exact e, r⟩
  · obtain ⟨n1, m1⟩ := nmu h1
    obtain ⟨n2, m2⟩ := nmu h2
    rw [← wipe_eq w n1] at e1; rw [← wipe_eq w n2] at e2
    exact s.inj i j xs ys a m1 m2 e1 e2

/-! ### lengths stay -/
theorem putS_len {i : Nat} {t : Sl} (h : putS env i t = some env') : env'.length = env.length := by
  obtain ⟨rfl, _⟩ := putS_some h; simp

/-! ### what is walked -/
structure Wlk (K : PySem.W.Frag) (J : It) (its : List D) (G : Hp → AP' → Prop) : Prop where
  go : ∀ i H B, G H B → i < its.length → J.go i H
  stop : ∀ i H B, G H B → its.length ≤ i → J.stop i H
  yld : ∀ i H B x H' d, G H B → BL H B → its[i]? = some d → J.yld i H x H' → Al H H' ∧ Rep K H' B d x
  stay : ∀ H B M H' B' M', BL H B → (∀ a, M a → B a) → G H B → Nx H B M H' B' M' → G H' B'
section
variable {K : PySem.W.Frag} {a b : Addr} {vs ws : List V} {its jts : List D}
theorem wlk_list : Wlk K (Itl K a) its (fun H B => ∃ vs, H a = some (.lst vs) ∧ ¬ B a ∧ RepL K H B its vs) where
  go := fun i H B ⟨vs, h, _, r⟩ hi => ⟨vs, vs[i]'(by rw [r.len]; exact hi), .inl (.inl h), by simp⟩
  stop := fun i H B ⟨vs, h, _, r⟩ hi => ⟨vs, .inl (.inl h), by rw [r.len]; exact hi⟩
  yld := fun i H B x H' d ⟨vs, h, _, r⟩ bl hd ⟨e, y⟩ => by
    subst e
    obtain ⟨v, e, q⟩ := r.get hd
    have := y vs (.inl (.inl h)); rw [e] at this; cases this
    exact ⟨Al.refl _, q⟩
  stay := fun H B M H' B' M' bl mb ⟨vs, h, nb, r⟩ n => ⟨vs, n.keep a _ h fun z => nb (mb a z), fun z => (n.b a z).elim nb (fun q => by rw [q] at h; cases h), RepL.nx bl mb n _ _ r⟩
theorem wlk_tup : Wlk K (Itt K a) its (fun H B => ∃ vs, SqT K H a vs ∧ RepL K H B its vs) where
  go := fun i H B ⟨vs, h, r⟩ hi => ⟨vs, vs[i]'(by rw [r.len]; exact hi), h, by simp⟩
  stop := fun i H B ⟨vs, h, r⟩ hi => ⟨vs, h, by rw [r.len]; exact hi⟩
  yld := fun i H B x H' d ⟨vs, h, r⟩ bl hd ⟨e, y⟩ => by
    subst e
    obtain ⟨v, e, q⟩ := r.get hd
    have := y vs h; rw [e] at this; cases this
    exact ⟨Al.refl _, q⟩
  stay := fun H B M H' B' M' bl mb ⟨vs, h, r⟩ n => ⟨vs, nxT bl mb n h, RepL.nx bl mb n _ _ r⟩
theorem zip_get {i : Nat} {d : D} (h : ((its.zip jts).map fun p => D.tup [p.1, p.2])[i]? = some d) : ∃ x y, its[i]? = some x ∧ jts[i]? = some y ∧ d = .tup [x, y] := by
  rw [List.getElem?_map] at h
  cases z : (its.zip jts)[i]? with
  | none => rw [z] at h; cases h
  | some p =>
    rw [z] at h
    obtain ⟨h1, h2⟩ := List.getElem?_zip_eq_some.mp z
    exact ⟨p.1, p.2, h1, h2, (Option.some.inj h).symm⟩
theorem wlk_zip : Wlk K (Itz K a b) ((its.zip jts).map fun p => D.tup [p.1, p.2]) (fun H B => (∃ vs, H a = some (.lst vs) ∧ ¬ B a ∧ RepL K H B its vs) ∧ ∃ vs, H b = some (.lst vs) ∧ ¬ B b ∧ RepL K H B jts vs) where
  go := fun i H B ⟨⟨vs, h, _, r⟩, ⟨ws, h', _, r'⟩⟩ hi => by
    have h1 : i < vs.length := by rw [r.len]; simp at hi; omega
    have h2 : i < ws.length := by rw [r'.len]; simp at hi; omega
    exact ⟨vs, ws, vs[i], ws[i], .inl (.inl h), .inl (.inl h'), by simp, by simp⟩
  stop := fun i H B ⟨⟨vs, h, _, r⟩, ⟨ws, h', _, r'⟩⟩ hi => ⟨vs, ws, .inl (.inl h), .inl (.inl h'), by rw [r.len, r'.len]; simp at hi; omega⟩
  yld := fun i H B x H' d ⟨⟨vs, h, _, r⟩, ⟨ws, h', _, r'⟩⟩ bl hd ⟨T, x1, x2, e, hT, e2, y1, y2⟩ => by
    subst e; subst e2
    obtain ⟨d1, d2, g1, g2, rfl⟩ := zip_get hd
    obtain ⟨v, e, q⟩ := r.get g1
    obtain ⟨v', e', q'⟩ := r'.get g2
    have := y1 vs (.inl (.inl h)); rw [e] at this; cases this
    have := y2 ws (.inl (.inl h')); rw [e'] at this; cases this
    exact ⟨Al.new hT, T, _, rfl, .inl (.inl upd_same), RepL.cons (q.al bl (Al.new hT)) (RepL.cons (q'.al bl (Al.new hT)) RepL.nil)⟩
  stay := fun H B M H' B' M' bl mb ⟨⟨vs, h, nb, r⟩, ⟨ws, h', nb', r'⟩⟩ n => ⟨⟨vs, n.keep a _ h fun z => nb (mb a z), fun z => (n.b a z).elim nb (fun q => by rw [q] at h; cases h), RepL.nx bl mb n _ _ r⟩,
    ⟨ws, n.keep b _ h' fun z => nb' (mb b z), fun z => (n.b b z).elim nb' (fun q => by rw [q] at h'; cases h'), RepL.nx bl mb n _ _ r'⟩⟩
theorem wlk_zipT : Wlk K (ItzT K a b) ((its.zip jts).map fun p => D.tup [p.1, p.2]) (fun H B => (∃ vs, SqT K H a vs ∧ RepL K H B its vs) ∧ ∃ vs, SqT K H b vs ∧ RepL K H B jts vs) where
  go := fun i H B ⟨⟨vs, h, r⟩, ⟨ws, h', r'⟩⟩ hi => by
    have h1 : i < vs.length := by rw [r.len]; simp at hi; omega
    have h2 : i < ws.length := by rw [r'.len]; simp at hi; omega
    exact ⟨vs, ws, vs[i], ws[i], h, h', by simp, by simp⟩
  stop := fun i H B ⟨⟨vs, h, r⟩, ⟨ws, h', r'⟩⟩ hi => ⟨vs, ws, h, h', by rw [r.len, r'.len]; simp at hi; omega⟩
  yld := fun i H B x H' d ⟨⟨vs, h, r⟩, ⟨ws, h', r'⟩⟩ bl hd ⟨T, x1, x2, e, hT, e2, y1, y2⟩ => by
    subst e; subst e2
    obtain ⟨d1, d2, g1, g2, rfl⟩ := zip_get hd
    obtain ⟨v, e, q⟩ := r.get g1
    obtain ⟨v', e', q'⟩ := r'.get g2
    have := y1 vs h; rw [e] at this; cases this
    have := y2 ws h'; rw [e'] at this; cases this
    exact ⟨Al.new hT, T, _, rfl, .inl (.inl upd_same), RepL.cons (q.al bl (Al.new hT)) (RepL.cons (q'.al bl (Al.new hT)) RepL.nil)⟩
  stay := fun H B M H' B' M' bl mb ⟨⟨vs, h, r⟩, ⟨ws, h', r'⟩⟩ n => ⟨⟨vs, nxT bl mb n h, RepL.nx bl mb n _ _ r⟩, ⟨ws, nxT bl mb n h', RepL.nx bl mb n _ _ r'⟩⟩
theorem enu_get : ∀ {xs : List D} {k i : Nat} {d : D}, (enu k xs)[i]? = some d → ∃ x, xs[i]? = some x ∧ d = .tup [.int ((k + i : Nat) : Int), x]
  | [], _, _, _, h => by simp [enu] at h
  | x :: xs, k, 0, d, h => by simp [enu] at h; exact ⟨x, rfl, h.symm⟩
  | x :: xs, k, i + 1, d, h => by
    obtain ⟨y, e1, e2⟩ := enu_get (k := k + 1) (i := i) (by simpa [enu] using h)
    exact ⟨y, by simpa using e1, by rw [e2, show k + 1 + i = k + (i + 1) by omega]⟩
theorem enu_len : ∀ {xs : List D} {k : Nat}, (enu k xs).length = xs.length
  | [], _ => rfl
  | _ :: xs, k => by simp [enu, enu_len]
theorem wlk_enum : Wlk K (Ite K a) (enu 0 its) (fun H B => ∃ vs, H a = some (.lst vs) ∧ ¬ B a ∧ RepL K H B its vs) where
  go := fun i H B ⟨vs, h, _, r⟩ hi => ⟨vs, vs[i]'(by rw [r.len]; rw [enu_len] at hi; exact hi), .inl (.inl h), by simp⟩
  stop := fun i H B ⟨vs, h, _, r⟩ hi => ⟨vs, .inl (.inl h), by rw [r.len]; rw [enu_len] at hi; exact hi⟩
  yld := fun i H B x H' d ⟨vs, h, _, r⟩ bl hd ⟨T, x1, e, hT, e2, y1⟩ => by
    subst e; subst e2
    obtain ⟨d1, g1, rfl⟩ := enu_get hd
    obtain ⟨v, e, q⟩ := r.get g1
    have := y1 vs (.inl (.inl h)); rw [e] at this; cases this
    exact ⟨Al.new hT, T, _, rfl, .inl (.inl upd_same), RepL.cons (by rw [Nat.zero_add]; rfl) (RepL.cons (q.al bl (Al.new hT)) RepL.nil)⟩
  stay := fun H B M H' B' M' bl mb ⟨vs, h, nb, r⟩ n => ⟨vs, n.keep a _ h fun z => nb (mb a z), fun z => (n.b a z).elim nb (fun q => by rw [q] at h; cases h), RepL.nx bl mb n _ _ r⟩
theorem ran_len {n : Nat} : (ran n).length = n := by simp [ran]
theorem wlk_rng {n : Nat} : Wlk K (Itr 0 n) (ran n) (fun _ _ => True) where
  go := fun i H B _ hi => by rw [ran_len] at hi; exact hi
  stop := fun i H B _ hi => by rw [ran_len] at hi; exact hi
  yld := fun i H B x H' d _ bl hd y => by
    obtain ⟨e1, e2⟩ := y
    subst e1; subst e2
    unfold ran at hd
    rw [List.getElem?_map] at hd
    cases z : (List.range n)[i]? with
    | none => rw [z] at hd; cases hd
    | some k =>
      rw [z] at hd
      obtain ⟨h1, h2⟩ := List.getElem?_eq_some_iff.mp z
      rw [List.getElem_range] at h2; subst h2
      cases hd
      exact ⟨Al.refl _, by show V.int (0 + (i : Int)) = V.int (i : Int); rw [Int.zero_add]⟩
  stay := fun _ _ _ _ _ _ _ _ _ _ => trivial
end
/-- what a for or a comprehension walks, by data -/
def tI (C : Ctx) (w : Wk) (src : Ex) : TI := fun σ H R => ∃ B M env xs its env', Sim C H B M σ env ∧ evL C.F src env = some (xs, env') ∧ walk w xs = some its ∧
  ∀ J G H' B' M', Sim C H' B' M' σ env' → Wlk C.K J its G → G H' B' → Nx H B M H' B' M' → R J H'
/-- a target -/
def tgs : Tg → List Nat
  | .one i => [i]
  | .many is => is
def tG (C : Ctx) (tg : Tg) : TG := fun v σ H Q => ∃ B M env env' d, Sim C H B M σ env ∧ Rep C.K H B d v ∧ bindT tg d env = some env' ∧ ∀ σ', Sim C H B M σ' env' → (∀ vs, (∀ i ∈ tgs tg, i ∈ vs) → L2.wipe σ' vs = L2.wipe σ vs) → Q σ' H
theorem wipe_set {σ : L2.St} {i : Nat} {o : Option V} : ∀ {vs : List Nat}, i ∈ vs → L2.wipe (σ.set i o) vs = L2.wipe σ vs := by
  intro vs hi
  have len : (L2.wipe (σ.set i o) vs).length = (L2.wipe σ vs).length := by rw [wipe_length, wipe_length, List.length_set]
  have wi : ∀ {τ : L2.St} {ws : List Nat} {j : Nat}, j ∈ ws → j < τ.length → (L2.wipe τ ws)[j]? = some none := by
    intro τ ws
    induction ws with
    | nil => intro j h; cases h
    | cons w ws ih =>
      intro j h hl
      unfold L2.wipe
      by_cases e : w = j
      · subst e; exact List.getElem?_set_self (by rw [wipe_length]; exact hl)
      · rw [List.getElem?_set_ne e]
        exact ih ((List.mem_cons.mp h).resolve_left (fun z => e z.symm)) hl
  refine List.ext_getElem? fun j => ?_
  by_cases hj : j ∈ vs
  · by_cases hl : j < σ.length
    · rw [wi hj (by rw [List.length_set]; exact hl), wi hj hl]
    · rw [List.getElem?_eq_none (by rw [wipe_length, List.length_set]; omega), List.getElem?_eq_none (by rw [wipe_length]; omega)]
  · rw [wipe_out hj, wipe_out hj, List.getElem?_set_ne (fun z => hj (by rw [← z]; exact hi))]
end Mn

namespace Mn
open PySem L2 RZ

/-! ### what is known of the names -/
structure GS where
  fn : List (PySem.Str × Nat × List (Nat × List PySem.Str × List Nat))
  co : List PySem.Str
  bl : List PySem.Str
  mf : List (PySem.Str × String)
  nw : List (PySem.Str × Nat)
  ca : List (PySem.Str × PySem.Str)
  mt : List (PySem.Str × Nat × PySem.Str × PySem.Str × List PySem.Str)
  mks : List (PySem.Str × Nat)
  slf : Option (List PySem.Str)
def kindIs (sc : Scope) (x : PySem.Str) (p : NameKind → Bool) : Bool := match sc.names.lookup x with | some k => p k | none => false
def vis (sc : Scope) (x : PySem.Str) : Bool := kindIs sc x fun | .local => true | .cell => true | .free => true | _ => false
def loc (sc : Scope) (x : PySem.Str) : Bool := kindIs sc x fun | .local => true | .cell => true | _ => false
def gl (sc : Scope) (x : PySem.Str) : Bool := kindIs sc x fun | .globalImplicit => true | _ => false
def isL (sc : Scope) (x : PySem.Str) : Bool := kindIs sc x fun | .local => true | _ => false
def okN (x : PySem.Str) : Bool := !(x == ("__debug__" : PySem.Str)) && !(x == ("__classdict__" : PySem.Str)) && !(x == ("__name__" : PySem.Str))
theorem kind_of {sc : Scope} {x : PySem.Str} {p : NameKind → Bool} (h : kindIs sc x p = true) : ∃ k, sc.names.lookup x = some k ∧ p k = true := by
  unfold kindIs at h
  split at h
  · exact ⟨_, by assumption, h⟩
  · cases h
/-- what a def promises, by data -/
def ArgR (K : PySem.W.Frag) (H : Hp) (B : AP') : List Sl → List V → List Addr → Prop
  | [], vs, ps => vs = [] ∧ ps = []
  | .val d :: r, vs, ps => ∃ v t, vs = v :: t ∧ Rep K H B d v ∧ ArgR K H B r t ps
  | .par xs :: r, vs, ps => ∃ a t q ws, vs = .ref a :: t ∧ ps = a :: q ∧ H a = some (.lst ws) ∧ RepL K H B xs ws ∧ B a ∧ ArgR K H B r t q
  | .own _ :: _, _, _ => False
  | .slf :: _, _, _ => False
def spF (K : PySem.W.Frag) (F : FT) (f : PySem.Str) (n : Nat) : Sp := fun vs H Q _ => ∃ B ss ps d outs, BL H B ∧ ArgR K H B ss vs ps ∧ ps.Nodup ∧ vs.length = n ∧ F f ss = some (d, outs) ∧
  ∀ v H', Rep K H' B d v → OutR K H' B outs ps → (∀ a o, H a = some o → a ∉ ps → H' a = some o) → (∀ a, H' a = none → H a = none) → Q v H'
/-- a def that returns a list that nobody else holds -/
def spN (K : PySem.W.Frag) (F : FT) (f : PySem.Str) (n : Nat) : Sp := fun vs H Q _ => ∃ B ds xs, BL H B ∧ RepL K H B ds vs ∧ vs.length = n ∧ F f (ds.map Sl.val) = some (.lst xs, []) ∧
  ∀ p H' ws, H p = none → H' p = some (.lst ws) → RepL K H' (ins p B) xs ws → (∀ a o, H a = some o → H' a = some o) → (∀ a, H' a = none → H a = none) → Q (.ref p) H'
/-- an object's making: its own def __init__ -/
def spM (K : PySem.W.Frag) (F : FT) (c : PySem.Str) (n : Nat) : Sp := fun vs H Q _ => ∃ x ws Cc dx B ds ks xs, vs = .ref x :: ws ∧ ws.length = n ∧ PySem.W.nsIn K mainGlobals c = some (some (.ref Cc)) ∧ H x = some (.ins Cc dx []) ∧ B x ∧ BL H B ∧ RepL K H B ds ws ∧ F c (ds.map Sl.val) = some (.obj c ks xs, []) ∧
  ∀ H' us, H' x = some (.ins Cc dx (ks.zip us)) → RepL K H' B xs us → ks.length = xs.length → (∀ a o, H a = some o → a ≠ x → H' a = some o) → (∀ a, H' a = none → H a = none) → Q .non H'
def gP {α : Type} (n m : Nat) (pm : List Nat) (us ws : List α) : List α := if us.length = n ∧ ws.length = m then (permA (us ++ ws) pm).getD [] else []
structure CalOk (X : Cx) (C : Ctx) (lv : Nat) (f : PySem.Str) (n : Nat) (kf : List (Nat × List PySem.Str × List Nat)) : Prop where
  ex : ∃ fa fd ps, X.mg f = some (.ref fa) ∧ PySem.W.keepIn X.K (.ref fa) = true ∧ FnG X.prog X.w X.K X.mg X.base lv fa fd ps (spF X.K C.F f n) ∧ ps.length = n ∧ Binds X.K fd ps [] ∧
    ∀ t ∈ kf, KBinds X.K fd ps t.2.1 (gP t.1 t.2.1.length t.2.2) (gP t.1 t.2.1.length t.2.2)
structure CalN (X : Cx) (C : Ctx) (lv : Nat) (f : PySem.Str) (n : Nat) : Prop where
  ex : ∃ fa fd ps, X.mg f = some (.ref fa) ∧ PySem.W.keepIn X.K (.ref fa) = true ∧ FnG X.prog X.w X.K X.mg X.base lv fa fd ps (spN X.K C.F f n) ∧ ps.length = n ∧ Binds X.K fd ps []
theorem FnG.mono {P : Program} {w : World} {K : PySem.W.Frag} {mg : PySem.Str → Option Value} {base : Heap} {j k : Nat} {fa : Addr} {fd : FuncData} {ps : List PySem.Str} {sp : Sp} (F : FnG P w K mg base j fa fd ps sp) (h : j ≤ k) : FnG P w K mg base k fa fd ps sp :=
  ⟨F.ln, fun A out s H ar us vs Q E qt rm en bd rv z => F.go A out s H ar us vs Q E qt (rm.mono h) en bd rv z⟩
structure MtOk (X : Cx) (C : Ctx) (lv : Nat) (g : PySem.Str) (n : Nat) (c : PySem.Str) (m : PySem.Str × List PySem.Str) : Prop where
  ex : ∃ Cc fa fd ps k, PySem.W.nsIn X.K mainGlobals c = some (some (.ref Cc)) ∧ Cls X.K Cc ∧ Meth X.K Cc m.1 fa ∧ FnG X.prog X.w X.K X.mg X.base k fa fd ps (spF X.K C.F g n) ∧ k + 1 ≤ lv ∧ ps.length = n ∧ Binds X.K fd ps [] ∧ (2 ≤ n → KBinds X.K fd ps m.2 (gP 1 (n - 1) (List.range n)) (gP 1 (n - 1) (List.range n)))
structure MkOk (X : Cx) (C : Ctx) (lv : Nat) (c : PySem.Str) (n : Nat) : Prop where
  ex : ∃ Cc fa fd ps k, PySem.W.nsIn X.K mainGlobals c = some (some (.ref Cc)) ∧ X.mg c = some (.ref Cc) ∧ Mk X.K Cc fa ∧ FnG X.prog X.w X.K X.mg X.base k fa fd ps (spM X.K C.F c n) ∧ k + 1 ≤ lv ∧ ps.length = n + 1 ∧ Binds X.K fd ps []
structure XOk (X : Cx) (C : Ctx) (G : GS) (lv : Nat) (N : List PySem.Str) (sc : Scope) : Prop where
  n : X.N = N
  nd : N.Nodup
  calm : X.calm = true
  K : X.K = C.K
  kind : X.env.scope.kind = .function
  vis : ∀ x, vis sc x = true → Vis X.env.scope x
  loc : ∀ x, loc sc x = true → Loc X.env.scope x ∧ (X.fn x = true ∨ X.env.scope.names.lookup x = some .local)
  isL : ∀ x, isL sc x = true → X.env.scope.names.lookup x = some .local
  cf : ∀ x, sc.names.lookup x = some .cell ∨ sc.names.lookup x = some .free → X.env.scope.names.lookup x = some .cell ∨ X.env.scope.names.lookup x = some .free
  gl : ∀ x, gl sc x = true → Gl X x
  room : Room lv X.A
  qt : Qt X.A
  bl : ∀ x ∈ G.bl, X.mg x = none
  mf : ∀ t ∈ G.mf, X.mg t.1 = some (.builtin t.2)
  fn : ∀ f n kf, G.fn.lookup f = some (n, kf) → CalOk X C lv f n kf
  nw : ∀ f n, G.nw.lookup f = some n → CalN X C lv f n
  co : ∀ x, x ∈ G.co → ∀ d o, C.F x [] = some (d, o) → ∃ v u, X.mg x = some u ∧ RelV v u ∧ ∀ H B, Rep X.K H B d v
  ca : ∀ t ∈ G.ca, ∃ Cc, PySem.W.nsIn X.K mainGlobals t.1 = some (some (.ref Cc)) ∧ Cls X.K Cc ∧ NoAttr X.K Cc t.2
  mt : ∀ g n c m, G.mt.lookup g = some (n, c, m) → MtOk X C lv g n c m
  mkr : ∀ c n, G.mks.lookup c = some n → MkOk X C lv c n
  sf : ∀ fl, G.slf = some fl → ∀ f, f ∈ fl → ∀ d o, C.F "" [.val (.str f)] = some (d, o) → ∃ a Cc dx fs v, C.P 0 = some a ∧ C.K0 a = some (Cc, dx, fs) ∧ Cls X.K Cc ∧ NoAttr X.K Cc f ∧ fs.lookup f = some v ∧ (d, v) ∈ C.X0

theorem relab {P : PySem.Str → Bool} {x : PySem.Str} {k : NameKind} : ∀ {names : List (PySem.Str × NameKind)}, names.lookup x = some k →
    ∃ k', (names.map fun (n, k) => if (k == NameKind.free && P n) = true then (n, NameKind.cell) else (n, k)).lookup x = some k' ∧ (k' = k ∨ (k = .free ∧ k' = .cell))
  | [], h => by simp at h
  | (n, k₀) :: r, h => by
    show ∃ k', List.lookup x ((if (k₀ == NameKind.free && P n) = true then (n, NameKind.cell) else (n, k₀)) :: (r.map _)) = some k' ∧ _
    cases hx : x == n with
    | true =>
      simp only [List.lookup_cons, hx] at h
      have hk : k₀ = k := Option.some.inj h
      subst hk
      by_cases hc : (k₀ == NameKind.free && P n) = true
      · rw [if_pos hc]; simp only [List.lookup_cons, hx]
        simp only [Bool.and_eq_true, beq_iff_eq] at hc
        exact ⟨_, rfl, .inr ⟨hc.1, rfl⟩⟩
      · rw [if_neg hc]; simp only [List.lookup_cons, hx]; exact ⟨_, rfl, .inl rfl⟩
    | false =>
      simp only [List.lookup_cons, hx] at h
      obtain ⟨k', e, q⟩ := relab (P := P) h
      by_cases hc : (k₀ == NameKind.free && P n) = true
      · rw [if_pos hc]; simp only [List.lookup_cons, hx]; exact ⟨k', e, q⟩
      · rw [if_neg hc]; simp only [List.lookup_cons, hx]; exact ⟨k', e, q⟩
theorem relab' {scope : Scope} {env : PySem.Env} {x : PySem.Str} {k : NameKind} (h : scope.names.lookup x = some k) : ∃ k', (relabel scope env).names.lookup x = some k' ∧ (k' = k ∨ (k = .free ∧ k' = .cell)) := by
  obtain ⟨k', e, q⟩ := relab (P := fun n => env.scope.kind == .function && env.kindOf n == some .cell) h
  refine ⟨k', ?_, q⟩
  rw [← e]
  unfold relabel
  simp only [Bool.and_assoc]
/-- within a comprehension's block -/
theorem XOk.blk {X : Cx} {C : Ctx} {G : GS} {lv : Nat} {N : List PySem.Str} {sc scope : Scope} (x : XOk X C G lv N sc) (hk : scope.kind = .function) (s : Shared) (H : Hp) (Cc : Addr) (cl : List (PySem.Str × Addr)) (fp : List Addr) :
    XOk (X.blk s H scope (compEnvC scope cl Cc X.env) fp) C G lv N scope where
  n := x.n
  nd := x.nd
  calm := x.calm
  K := x.K
  kind := hk
  vis := fun y h => by
    obtain ⟨k, e, q⟩ := kind_of h
    obtain ⟨k', e', q'⟩ := relab' (env := X.env) e
    rcases q' with rfl | ⟨rfl, rfl⟩
    · cases k' <;> first | exact .inl e' | exact .inr (.inl e') | exact .inr (.inr e') | cases q
    · exact .inr (.inl e')
  loc := fun y h => by
    obtain ⟨k, e, q⟩ := kind_of h
    obtain ⟨k', e', q'⟩ := relab' (env := X.env) e
    rcases q' with rfl | ⟨rfl, rfl⟩
    · cases k' with
      | «local» => exact ⟨.inl e', .inr e'⟩
      | cell => exact ⟨.inr e', .inl (by show (scope.names.lookup y == some .cell) = true; rw [e]; rfl)⟩
      | _ => cases q
    · cases q
  isL := fun y h => by
    obtain ⟨k, e, q⟩ := kind_of h
    obtain ⟨k', e', q'⟩ := relab' (env := X.env) e
    rcases q' with rfl | ⟨rfl, rfl⟩
    · cases k' <;> first | exact e' | cases q
    · cases q
  cf := fun y h => by
    rcases h with e | e
    · obtain ⟨k', e', q'⟩ := relab' (env := X.env) e
      rcases q' with rfl | ⟨h, _⟩
      · exact .inl e'
      · cases h
    · obtain ⟨k', e', q'⟩ := relab' (env := X.env) e
      rcases q' with rfl | ⟨_, rfl⟩
      · exact .inr e'
      · exact .inl e'
  gl := fun y h => by
    obtain ⟨k, e, q⟩ := kind_of h
    obtain ⟨k', e', q'⟩ := relab' (env := X.env) e
    rcases q' with rfl | ⟨rfl, rfl⟩
    · cases k' <;> first | exact e' | cases q
    · cases q
  room := x.room
  qt := x.qt
  bl := x.bl
  mf := x.mf
  fn := fun f n kf h => ⟨(x.fn f n kf h).ex⟩
  nw := fun f n h => ⟨(x.nw f n h).ex⟩
  co := x.co
  ca := x.ca
  mt := fun g n c m h => ⟨(x.mt g n c m h).ex⟩
  mkr := fun c n h => ⟨(x.mkr c n h).ex⟩
  sf := x.sf

/-! ### the check: is this the text that the reading tells? -/
def nst : Expr → Bool | .Starred .. => false | _ => true
def plain : Expr → Bool
  | .UnaryOp .Not _ _ => false
  | .BoolOp .. => false
  | .IfExp .. => false
  | .Compare .. => false
  | _ => true
def notSl : Expr → Bool | .Slice .. => false | _ => true
def notSet : Expr → Bool | .Set .. => false | _ => true
def ckB : BO → Operator → Bool
  | .add, .Add => true | .sub, .Sub => true | .mul, .Mult => true | .div, .FloorDiv => true | .mod, .Mod => true | .pow, .Pow => true
  | _, _ => false
theorem ckB_eq {o : BO} {op : Operator} (h : ckB o op = true) : op = oB o := by cases o <;> cases op <;> first | rfl | cases h
def ckC : CO → CmpOp → Bool
  | .eq, .Eq => true | .ne, .NotEq => true | .lt, .Lt => true | .le, .LtE => true | .gt, .Gt => true | .ge, .GtE => true | .is, .Is => true | .isn, .IsNot => true | .inn, .In => true | .nin, .NotIn => true
  | _, _ => false
theorem ckC_eq {o : CO} {op : CmpOp} (h : ckC o op = true) : op = oC o := by cases o <;> cases op <;> first | rfl | cases h
def ckK : D → Const → Bool
  | .non, .none => true
  | .bl b, .bool c => b == c
  | .int i, .int j => decide (i = j)
  | .str x, .str y => decide (x = y)
  | _, _ => false
/-- a built-in by its name -/
def bfN : BF → PySem.Str
  | .abs => "abs" | .int => "int" | .len => "len" | .sum => "sum" | .max => "max" | .min => "min" | .all => "all" | .any => "any" | .list => "list" | .tuple => "tuple" | .gcd => "gcd" | .isqrt => "isqrt" | .repr => "repr" | .str => "str" | .isi _ => "isinstance"
/-- a text's method by its name -/
def mtN : Mt → PySem.Str
  | .split => "split" | .part => "partition" | .pre => "removeprefix" | .asc => "isascii" | .dig => "isdigit" | .stw => "startswith" | .join => "join" | .own _ _ _ => "" | .ownk _ _ _ => "" | .lno _ _ => ""
def mt0 : Mt → Bool | .asc => true | .dig => true | _ => false
def mt1 : Mt → Bool | .split => true | .part => true | .pre => true | .stw => true | .join => true | _ => false
def nm (N : List PySem.Str) (sc : Scope) (i : Nat) (x : PySem.Str) : Bool := decide (N[i]? = some x) && vis sc x && okN x
def ckTgN (N : List PySem.Str) (sc : Scope) : List Nat → List Expr → Bool
  | [], [] => true
  | i :: is, .Name x _ :: es => decide (N[i]? = some x) && loc sc x && ckTgN N sc is es
  | _, _ => false
def ckTg (N : List PySem.Str) (sc : Scope) : Tg → Expr → Bool
  | .one i, .Name x _ => decide (N[i]? = some x) && loc sc x
  | .many is, .Tuple es _ _ => ckTgN N sc is es
  | _, _ => false
def kwN : List Keyword → Option (List PySem.Str)
  | [] => some []
  | ⟨some n, _, _⟩ :: r => (kwN r).map (n :: ·)
  | ⟨none, _, _⟩ :: _ => none
/-- not super() -/
def notSup : Expr → Bool
  | .Call (.Name _ _) [] [] _ => false
  | _ => true
mutual
def ckE (G : GS) (N : List PySem.Str) : Scope → Ex → Expr → Bool
  | sc, .var i, .Name x _ => nm N sc i x
  | sc, .con d, .Constant c _ _ => ckK d c
  | sc, .glo x, .Name y _ => decide (x = y) && gl sc x && okN x && decide (x ∈ G.co)
  | sc, .ixv i e, .Subscript (.Name x _) s _ => nm N sc i x && notSl s && ckE G N sc e s
  | sc, .lenv i, .Call (.Name f _) [.Name x _] [] _ => decide (f = ("len" : PySem.Str)) && gl sc f && decide (f ∈ G.bl) && nm N sc i x
  | sc, .bin o a b, .BinOp l op r _ => ckB o op && ckE G N sc a l && ckE G N sc b r
  | sc, .neg a, .UnaryOp .USub l _ => ckE G N sc a l
  | sc, .cmp o a b, .Compare l [op] [r] _ => ckC o op && ckE G N sc a l && ckE G N sc b r
  | sc, .vand a b, .BoolOp .And (x :: y :: r) p => ckE G N sc a x && (match r with | [] => ckE G N sc b y | _ :: _ => ckE G N sc b (.BoolOp .And (y :: r) p))
  | sc, .vor a b, .BoolOp .Or (x :: y :: r) p => ckE G N sc a x && (match r with | [] => ckE G N sc b y | _ :: _ => ckE G N sc b (.BoolOp .Or (y :: r) p))
  | sc, .vnot a, .UnaryOp .Not l _ => ckE G N sc a l
  | sc, .ite c a b, .IfExp t l r _ => ckT G N sc c t && ckE G N sc a l && ckE G N sc b r
  | sc, .tup es, .Tuple xs _ _ => ckL G N sc es xs
  | sc, .lst es, .List xs _ => ckL G N sc es xs
  | sc, .ix a i, .Subscript l s _ => notSl s && ckE G N sc a l && ckE G N sc i s
  | sc, .slc a lo hi, .Subscript l (.Slice x y none _) _ => ckE G N sc a l && ckO G N sc lo x && ckO G N sc hi y
  | sc, .rev a, .Subscript l (.Slice none none (some (.UnaryOp .USub (.Constant (.int i) _ _) _)) _) _ => decide (i = 1) && ckE G N sc a l
  | sc, .att cs e f, .Attribute l g _ => decide (f = g) && notSup l && cs.all (fun c => decide ((c, f) ∈ G.ca)) && ckE G N sc e l
  | sc, .sg f, .Attribute (.Name x _) g _ => decide (f = g) && nm N sc 0 x && (match G.slf with | some fl => decide (f ∈ fl) | none => false)
  | sc, .mk c es, .Call (.Name x _) (a :: args) [] _ => decide (c = x) && gl sc c && okN c && decide (G.mks.lookup c = some (args.length + 1)) && nst a && args.all nst && ckL G N sc es (a :: args)
  | sc, .mth (.own c m g) e es, .Call (.Attribute l x ap) (a :: args) [] cp => decide (m = x) && notSup l && (ap.endLine == cp.line) && decide (args.length < 20) && (match G.mt.lookup g with | some t => decide (t.1 = args.length + 2) && decide (t.2.1 = c) && decide (t.2.2.1 = m) | none => false) && nst a && args.all nst && ckE G N sc e l && ckL G N sc es (a :: args)
  | sc, .mth (.ownk c m g) e es, .Call (.Attribute l x ap) [] (kw :: kws) cp => decide (m = x) && notSup l && (ap.endLine == cp.line) && decide (kws.length < 20) && (match G.mt.lookup g with | some t => decide (t.1 = kws.length + 2) && decide (t.2.1 = c) && decide (t.2.2.1 = m) && decide (kwN (kw :: kws) = some t.2.2.2) | none => false) && ckE G N sc e l && ckA G N sc es ((kw :: kws).map (·.value))
  | sc, .mth (.lno c g) e .nil, .Call (.Name f _) [a] [] _ => decide (f = ("len" : PySem.Str)) && gl sc f && decide (f ∈ G.bl) && nst a && (match G.mt.lookup g with | some t => decide (t.1 = 1) && decide (t.2.1 = c) && decide (t.2.2.1 = ("__len__" : PySem.Str)) | none => false) && ckE G N sc e a
  | sc, .mth m e es, .Call (.Attribute l x ap) args [] cp => decide (x = mtN m) && notSup l && (ap.endLine == cp.line) && ckE G N sc e l && (match args with
      | [] => mt0 m && (match es with | .nil => true | _ => false)
      | [a] => mt1 m && (match es with | .cons e1 .nil => nst a && ckE G N sc e1 a | _ => false)
      | _ => false)
  | sc, .fst es, .JoinedStr ys _ => (match ys with | _ :: _ :: _ => true | _ => false) && ckJ G N sc es ys
  | sc, .call f pm es, .Call (.Name x _) args kws _ => decide (f = x) && gl sc f && okN f && (match G.fn.lookup f with
      | some (n, kf) => decide (pm.length = n) && (match kws with
        | [] => decide (pm = List.range args.length) && !args.isEmpty
        | _ :: _ => (match kwN kws with | some ks => decide ((args.length, ks, pm) ∈ kf) | none => false))
      | none => false) && ckA G N sc es (args ++ kws.map (·.value))
  | sc, .calln f g es, .Call (.Name x _) [.Call (.Name y _) (a :: args) [] _] [] _ => decide (f = x) && gl sc f && okN f && decide (g = y) && gl sc g && okN g && (match G.fn.lookup f with | some (n, _) => decide (n = 1) | none => false) && decide (G.nw.lookup g = some (args.length + 1)) && ckL G N sc es (a :: args)
  | sc, .lrng e, .Call (.Name x _) [.Call (.Name y _) [a] [] _] [] _ => decide (x = ("list" : PySem.Str)) && gl sc x && decide (x ∈ G.bl) && decide (y = ("range" : PySem.Str)) && gl sc y && decide (y ∈ G.bl) && nst a && ckE G N sc e a
  | sc, .blt f es, .Call (.Name x _) (a :: args) [] _ => (match f with
      | .isi t => decide (x = ("isinstance" : PySem.Str)) && gl sc x && decide (x ∈ G.bl) && (match args with
        | [.Name y _] => decide (y = PySem.Str.ofString t) && gl sc y && okN y && decide (y ∈ G.bl) && decide (bootBuiltins y = some (.type t)) && (match es with | .cons e .nil => nst a && ckE G N sc e a | _ => false)
        | _ => false)
      | .gcd => decide ((x, "math.gcd") ∈ G.mf) && gl sc x && okN x && ckL G N sc es (a :: args)
      | .isqrt => decide ((x, "math.isqrt") ∈ G.mf) && gl sc x && okN x && ckL G N sc es (a :: args)
      | f => decide (x = bfN f) && gl sc x && decide (x ∈ G.bl) && ckL G N sc es (a :: args))
  | sc, .comp w src tg cd el own, .ListComp elt [⟨tge, iter, ifs, 0⟩] scope _ =>
      ckI G N sc w src iter tge && ckTg N scope tg tge && blkC N sc scope (own.map fun i => (N.getD i "", i)) && (tgs tg).all (fun i => decide (i ∈ own)) &&
      (match ifs with | [] => (match cd with | .tyes => true | _ => false) | [c] => ckT G N scope cd c | _ => false) && ckE G N scope el elt
  | _, _, _ => false
def ckT (G : GS) (N : List PySem.Str) : Scope → Ex → Expr → Bool
  | sc, .tnot a, .UnaryOp .Not l _ => ckT G N sc a l
  | sc, .tand a b, .BoolOp .And (x :: y :: r) p => ckT G N sc a x && (match r with | [] => ckT G N sc b y | _ :: _ => ckT G N sc b (.BoolOp .And (y :: r) p))
  | sc, .tor a b, .BoolOp .Or (x :: y :: r) p => ckT G N sc a x && (match r with | [] => ckT G N sc b y | _ :: _ => ckT G N sc b (.BoolOp .Or (y :: r) p))
  | sc, .tvar i, .Name x _ => nm N sc i x
  | sc, .tval (.cmp o a b), .Compare l [op] [r] _ => ckC o op && ckE G N sc a l && ckE G N sc b r
  | sc, .tval a, e => plain e && ckE G N sc a e
  | _, _, _ => false
def ckJ (G : GS) (N : List PySem.Str) : Scope → Ex → List Expr → Bool
  | _, .nil, [] => true
  | sc, .cons e es, .FormattedValue v k none _ :: ys => decide (k = -1) && ckE G N sc e v && ckJ G N sc es ys
  | sc, .cons (.con (.str s)) es, .Constant (.str t) _ _ :: ys => decide (s = t) && ckJ G N sc es ys
  | _, _, _ => false
def ckL (G : GS) (N : List PySem.Str) : Scope → Ex → List Expr → Bool
  | _, .nil, [] => true
  | sc, .cons e es, x :: xs => nst x && ckE G N sc e x && ckL G N sc es xs
  | _, _, _ => false
def ckA (G : GS) (N : List PySem.Str) : Scope → Ex → List Expr → Bool
  | _, .nil, [] => true
  | sc, .cons e es, x :: xs => nst x && ckAr G N sc e x && ckA G N sc es xs
  | _, _, _ => false
def ckO (G : GS) (N : List PySem.Str) : Scope → Ex → Option Expr → Bool
  | _, .nil, none => true
  | sc, .tval e, some x => ckE G N sc e x
  | _, _, _ => false
def ckAr (G : GS) (N : List PySem.Str) : Scope → Ex → Expr → Bool
  | sc, .ref i, .Name x _ => nm N sc i x
  | sc, .tval e, x => ckE G N sc e x
  | _, _, _ => false
/-- what a for or a comprehension goes over -/
def ckI (G : GS) (N : List PySem.Str) : Scope → Wk → Ex → Expr → Expr → Bool
  | sc, .seq, .cons e .nil, x, _ => notSet x && ckE G N sc e x
  | sc, .zip, .cons e (.cons e' .nil), .Call (.Name f _) [x, y] [] _, .Tuple _ _ _ => decide (f = ("zip" : PySem.Str)) && gl sc f && decide (f ∈ G.bl) && nst x && nst y && ckE G N sc e x && ckE G N sc e' y
  | sc, .enum, .cons e .nil, .Call (.Name f _) [x] [] _, .Tuple _ _ _ => decide (f = ("enumerate" : PySem.Str)) && gl sc f && decide (f ∈ G.bl) && nst x && ckE G N sc e x
  | sc, .enumS k, .cons e .nil, .Call (.Name f _) [x] [⟨some n, .Constant (.int j) _ _, _⟩] _, .Tuple _ _ _ => decide (f = ("enumerate" : PySem.Str)) && gl sc f && decide (f ∈ G.bl) && decide (n = ("start" : PySem.Str)) && decide (j = (k : Int)) && decide (k < 1000) && nst x && ckE G N sc e x
  | sc, .rng, .cons e .nil, .Call (.Name f _) [x] [] _, _ => decide (f = ("range" : PySem.Str)) && gl sc f && decide (f ∈ G.bl) && nst x && ckE G N sc e x
  | _, _, _, _, _ => false
end
end Mn

namespace Mn
open PySem L2 RZ
variable {C : Ctx} {X : Cx} {F : FT} {env env' : Env} {d : D}

theorem bind_some {α β : Type} {x : Option α} {f : α → Option β} {b : β} (h : (x >>= f) = some b) : ∃ a, x = some a ∧ f a = some b := Option.bind_eq_some_iff.mp h
theorem ev_bin {o a b} (h : evE F (.bin o a b) env = some (d, env')) : ∃ x e1 y, evE F a env = some (x, e1) ∧ evE F b e1 = some (y, env') ∧ opB o x y = some d := by
  rw [evE] at h
  obtain ⟨⟨x, e1⟩, h1, h⟩ := bind_some h
  obtain ⟨⟨y, e2⟩, h2, h⟩ := bind_some h
  obtain ⟨r, h3, h⟩ := bind_some h
  cases h
  exact ⟨x, e1, y, h1, h2, h3⟩
theorem ev_cmp {o a b} (h : evE F (.cmp o a b) env = some (d, env')) : ∃ x e1 y r, evE F a env = some (x, e1) ∧ evE F b e1 = some (y, env') ∧ opC o x y = some r ∧ d = .bl r := by
  rw [evE] at h
  obtain ⟨⟨x, e1⟩, h1, h⟩ := bind_some h
  obtain ⟨⟨y, e2⟩, h2, h⟩ := bind_some h
  obtain ⟨r, h3, h⟩ := bind_some h
  cases h
  exact ⟨x, e1, y, r, h1, h2, h3, rfl⟩
theorem ev_ix {a b} (h : evE F (.ix a b) env = some (d, env')) : ∃ x e1 y, evE F a env = some (x, e1) ∧ evE F b e1 = some (y, env') ∧ opIx x y = some d := by
  rw [evE] at h
  obtain ⟨⟨x, e1⟩, h1, h⟩ := bind_some h
  obtain ⟨⟨y, e2⟩, h2, h⟩ := bind_some h
  obtain ⟨r, h3, h⟩ := bind_some h
  cases h
  exact ⟨x, e1, y, h1, h2, h3⟩
/-- a two-place operation -/
theorem two_op {f : D → D → Option D} {a b : Ex} {r : R2} {w : Ex} (ev : ∀ {env env' : Env} {d : D}, evE C.F w env = some (d, env') → ∃ x e1 y, evE C.F a env = some (x, e1) ∧ evE C.F b e1 = some (y, env') ∧ f x y = some d)
    (hr : ∀ x y H Q, rD C.K f x y H Q → r x y H Q) {σ : L2.St} {H : Hp} {Q : VK} (h : tE C w σ H Q) : tOp r (tE C a) (tE C b) σ H Q := by
  obtain ⟨B, M, env, d, env', s, e, q⟩ := h
  obtain ⟨x, e1, y, h1, h2, h3⟩ := ev e
  refine ⟨B, M, env, x, e1, s, h1, fun v H1 B1 M1 s1 r1 n1 => ⟨B1, M1, e1, y, env', s1, h2, fun u H2 B2 M2 s2 r2 n2 => hr _ _ _ _ ?_⟩⟩
  refine ⟨B2, x, y, d, s2.bl, Rep.nx s1.bl s1.mb n2 _ _ r1, r2, h3, fun z H3 al r3 => ?_⟩
  exact q z H3 B2 M2 (s2.al al) r3 (n1.trans (n2.trans al.nx))
theorem r_bin {o : BO} {a b : Ex} {ea eb : Expr} {pos : Pos} (hK : X.K = C.K) (ha : PE X ea (tE C a)) (hb : PE X eb (tE C b)) : PE X (.BinOp ea (oB o) eb pos) (tE C (.bin o a b)) :=
  (pe_op (op_binD o) ha hb).imp fun σ H Q h => two_op ev_bin (fun _ _ _ _ q => hK ▸ q) h
theorem r_cmp {o : CO} {a b : Ex} {ea eb : Expr} {pos : Pos} (hK : X.K = C.K) (hu : X.A.units + 64 < cLine) (ha : PE X ea (tE C a)) (hb : PE X eb (tE C b)) (hm : behindInMarks (oC o) eb = false) : PE X (.Compare ea [oC o] [eb] pos) (tE C (.cmp o a b)) :=
  (pe_cmpR (op_cmpM hu o) ha hb hm).imp fun σ H Q h => two_op (f := fun a b => (opC o a b).map D.bl) (fun h => by
    obtain ⟨x, e1, y, r, h1, h2, h3, rfl⟩ := ev_cmp h
    exact ⟨x, e1, y, h1, h2, by rw [h3] <;> rfl⟩) (fun _ _ _ _ q => hK ▸ q) h
theorem ckE_noset {G : GS} {N : List PySem.Str} {sc : Scope} {b : Ex} {xs : List Expr} {k : Nat} {p : Pos} (h : ckE G N sc b (.Set xs k p) = true) : False := by
  cases b <;> simp [ckE] at h
theorem nomk {G : GS} {N : List PySem.Str} {sc : Scope} {b : Ex} {op : CmpOp} (e : Expr) (h : ckE G N sc b e = true) : behindInMarks op e = false := by
  cases e
  case Set xs k p => exact (ckE_noset h).elim
  all_goals rfl
theorem r_ix {a b : Ex} {ea eb : Expr} {pos : Pos} (hK : X.K = C.K) (hs : notSl eb = true) (ha : PE X ea (tE C a)) (hb : PE X eb (tE C b)) : PE X (.Subscript ea eb pos) (tE C (.ix a b)) :=
  (pe_ix ix_D ha hb (fun o i => by cases eb <;> first | rfl | cases hs)).imp fun σ H Q h => two_op ev_ix (fun _ _ _ _ q => hK ▸ q) h
theorem r_var {i : Nat} {x : PySem.Str} {pos : Pos} (hN : X.N[i]? = some x) (hv : Vis X.env.scope x) (hd : (x == ("__debug__" : PySem.Str)) = false) (hcd : (x == ("__classdict__" : PySem.Str)) = false) : PE X (.Name x pos) (tE C (.var i)) :=
  (pe_var hN hv hd hcd).imp fun σ H Q h => by
    obtain ⟨B, M, env, d, env', s, e, q⟩ := h
    rw [evE] at e
    split at e
    · cases e
      obtain ⟨v, e1, r⟩ := s.val i _ (by assumption)
      exact ⟨v, e1, q v H B M s r (Nx.refl _ _ _)⟩
    · cases e
      obtain ⟨a, e1, s1, r⟩ := s.freeze (by assumption)
      exact ⟨_, e1, q _ H _ _ s1 r (nx_freeze a)⟩
    · cases e
theorem r_con {d : D} {c : Const} {j pos} (h : ckK d c = true) : PE X (.Constant c j pos) (tE C (.con d)) := by
  have fin : ∀ {v : V} {σ : L2.St} {H : Hp} {Q : VK}, (∀ K H B, Rep K H B d v) → tE C (.con d) σ H Q → Q v H := fun {v σ H Q} r h => by
    obtain ⟨B, M, env, d, env', s, e, q⟩ := h
    rw [evE] at e; cases e
    exact q v H B M s (r _ _ _) (Nx.refl _ _ _)
  unfold ckK at h
  split at h
  · exact pe_non.imp fun σ H Q q => fin (fun _ _ _ => rfl) q
  · rw [beq_iff_eq] at h; subst h
    exact pe_bl.imp fun σ H Q q => fin (fun _ _ _ => rfl) q
  · have h := of_decide_eq_true h; subst h
    exact pe_int.imp fun σ H Q q => fin (fun _ _ _ => rfl) q
  · have h := of_decide_eq_true h; subst h
    exact pe_str.imp fun σ H Q q => fin (fun _ _ _ => rfl) q
  · cases h
theorem ev_neg {a} (h : evE F (.neg a) env = some (d, env')) : ∃ i, evE F a env = some (.int i, env') ∧ d = .int (-i) := by
  rw [evE] at h
  obtain ⟨⟨x, e1⟩, h1, h⟩ := bind_some h
  cases x <;> first | (cases h; done) | skip
  cases h
  exact ⟨_, h1, rfl⟩
theorem r_neg {a : Ex} {ea : Expr} {pos : Pos} (ha : PE X ea (tE C a)) : PE X (.UnaryOp .USub ea pos) (tE C (.neg a)) :=
  (pe_un un_neg ha).imp fun σ H Q h => by
    obtain ⟨B, M, env, d, env', s, e, q⟩ := h
    obtain ⟨i, h1, rfl⟩ := ev_neg e
    refine ⟨B, M, env, _, env', s, h1, fun v H1 B1 M1 s1 r1 n1 => ?_⟩
    cases r1
    exact ⟨i, rfl, q _ H1 B1 M1 s1 rfl n1⟩
theorem ev_bool {a} {g : Bool → Env → Option (D × Env)} (h : (evE F a env >>= fun p => match p with | (x, e1) => (match x with | .bl k => g k e1 | _ => none)) = some (d, env')) : ∃ k e1, evE F a env = some (.bl k, e1) ∧ g k e1 = some (d, env') := by
  obtain ⟨⟨x, e1⟩, h1, h⟩ := bind_some h
  cases x <;> first | (cases h; done) | skip
  exact ⟨_, _, h1, h⟩
theorem ev_vand {a b} (h : evE F (.vand a b) env = some (d, env')) : ∃ k e1, evE F a env = some (.bl k, e1) ∧ (if k = true then evE F b e1 = some (d, env') else d = .bl false ∧ env' = e1) := by
  rw [evE] at h
  obtain ⟨⟨x, e1⟩, h1, h⟩ := bind_some h
  cases x with
  | bl k => cases k with
    | true => exact ⟨true, e1, h1, h⟩
    | false => cases h; exact ⟨false, _, h1, rfl, rfl⟩
  | _ => cases h
theorem ev_vor {a b} (h : evE F (.vor a b) env = some (d, env')) : ∃ k e1, evE F a env = some (.bl k, e1) ∧ (if k = true then d = .bl true ∧ env' = e1 else evE F b e1 = some (d, env')) := by
  rw [evE] at h
  obtain ⟨⟨x, e1⟩, h1, h⟩ := bind_some h
  cases x with
  | bl k => cases k with
    | true => cases h; exact ⟨true, _, h1, rfl, rfl⟩
    | false => exact ⟨false, e1, h1, h⟩
  | _ => cases h
theorem r_vand {a b : Ex} {ea eb : Expr} {rest : List Expr} {pos : Pos} (ha : PE X ea (tE C a)) (hb : PE X (.BoolOp .And (eb :: rest) pos) (tE C b)) : PE X (.BoolOp .And (ea :: eb :: rest) pos) (tE C (.vand a b)) :=
  (pe_and ha hb).imp fun σ H Q h => by
    obtain ⟨B, M, env, d, env', s, e, q⟩ := h
    obtain ⟨k, e1, h1, h2⟩ := ev_vand e
    refine ⟨B, M, env, _, e1, s, h1, fun v H1 B1 M1 s1 r1 n1 => ⟨k, r1, ?_⟩⟩
    cases k with
    | true => exact ⟨B1, M1, e1, d, env', s1, h2, fun v H2 B2 M2 s2 r2 n2 => q v H2 B2 M2 s2 r2 (n1.trans n2)⟩
    | false => obtain ⟨rfl, rfl⟩ := h2; exact q _ H1 B1 M1 s1 rfl n1
theorem r_vor {a b : Ex} {ea eb : Expr} {rest : List Expr} {pos : Pos} (ha : PE X ea (tE C a)) (hb : PE X (.BoolOp .Or (eb :: rest) pos) (tE C b)) : PE X (.BoolOp .Or (ea :: eb :: rest) pos) (tE C (.vor a b)) :=
  (pe_or ha hb).imp fun σ H Q h => by
    obtain ⟨B, M, env, d, env', s, e, q⟩ := h
    obtain ⟨k, e1, h1, h2⟩ := ev_vor e
    refine ⟨B, M, env, _, e1, s, h1, fun v H1 B1 M1 s1 r1 n1 => ⟨k, r1, ?_⟩⟩
    cases k with
    | false => exact ⟨B1, M1, e1, d, env', s1, h2, fun v H2 B2 M2 s2 r2 n2 => q v H2 B2 M2 s2 r2 (n1.trans n2)⟩
    | true => obtain ⟨rfl, rfl⟩ := h2; exact q _ H1 B1 M1 s1 rfl n1
theorem ev_vnot {a} (h : evE F (.vnot a) env = some (d, env')) : ∃ i, evE F a env = some (.bl i, env') ∧ d = .bl (!i) := by
  rw [evE] at h
  obtain ⟨⟨x, e1⟩, h1, h⟩ := bind_some h
  cases x <;> first | (cases h; done) | skip
  cases h
  exact ⟨_, h1, rfl⟩
theorem r_vnot {a : Ex} {ea : Expr} {pos : Pos} (ha : PE X ea (tE C a)) : PE X (.UnaryOp .Not ea pos) (tE C (.vnot a)) :=
  (pe_not ha).imp fun σ H Q h => by
    obtain ⟨B, M, env, d, env', s, e, q⟩ := h
    obtain ⟨i, h1, rfl⟩ := ev_vnot e
    refine ⟨B, M, env, _, env', s, h1, fun v H1 B1 M1 s1 r1 n1 => ?_⟩
    cases r1
    exact ⟨i, rfl, q _ H1 B1 M1 s1 rfl n1⟩
theorem ev_ite {c a b} (h : evE F (.ite c a b) env = some (d, env')) : ∃ k e1, evT F c env = some (k, e1) ∧ (if k = true then evE F a e1 = some (d, env') else evE F b e1 = some (d, env')) := by
  rw [evE] at h
  obtain ⟨⟨k, e1⟩, h1, h⟩ := bind_some h
  refine ⟨k, e1, h1, ?_⟩
  cases k <;> exact h
theorem r_ite {c a b : Ex} {ec ea eb : Expr} {pos : Pos} (hc : PT X ec (tT C c)) (ha : PE X ea (tE C a)) (hb : PE X eb (tE C b)) : PE X (.IfExp ec ea eb pos) (tE C (.ite c a b)) :=
  (pe_ifExp hc ha hb).imp fun σ H Q h => by
    obtain ⟨B, M, env, d, env', s, e, q⟩ := h
    obtain ⟨k, e1, h1, h2⟩ := ev_ite e
    refine ⟨B, M, env, _, e1, s, h1, fun H1 B1 M1 s1 n1 => ?_⟩
    cases k <;> exact ⟨B1, M1, e1, d, env', s1, h2, fun v H2 B2 M2 s2 r2 n2 => q v H2 B2 M2 s2 r2 (n1.trans n2)⟩
/-! ### lists of expressions -/
theorem r_nil : PA X [] (tL C .nil) := pa_nil.imp fun σ H Q h => by
  obtain ⟨B, M, env, d, env', s, e, q⟩ := h
  rw [evL] at e; cases e
  exact q [] H B M s rfl (Nx.refl _ _ _)
theorem star_cons {e : Expr} {es : List Expr} {env : PySem.Env} (h : nst e = true) : starEach (e :: es) env = (false, eval e env) :: starEach es env := by cases e <;> first | rfl | cases h
theorem ev_cons {e es} {ds : List D} (h : evL F (.cons e es) env = some (ds, env')) : ∃ x e1 xs, evE F e env = some (x, e1) ∧ evL F es e1 = some (xs, env') ∧ ds = x :: xs := by
  rw [evL] at h
  obtain ⟨⟨x, e1⟩, h1, h⟩ := bind_some h
  obtain ⟨⟨xs, e2⟩, h2, h⟩ := bind_some h
  cases h
  exact ⟨x, e1, xs, h1, h2, rfl⟩
theorem r_cons {e es : Ex} {x : Expr} {xs : List Expr} (hn : nst x = true) (he : PE X x (tE C e)) (hs : PA X xs (tL C es)) : PA X (x :: xs) (tL C (.cons e es)) :=
  (pa_cons he hs (star_cons hn)).imp fun σ H Q h => by
    obtain ⟨B, M, env, ds, env', s, e, q⟩ := h
    obtain ⟨x, e1, xs, h1, h2, rfl⟩ := ev_cons e
    refine ⟨B, M, env, x, e1, s, h1, fun v H1 B1 M1 s1 r1 n1 => ⟨B1, M1, e1, xs, env', s1, h2, fun vs H2 B2 M2 s2 r2 n2 => ?_⟩⟩
    exact q _ H2 B2 M2 s2 (RepL.cons (Rep.nx s1.bl s1.mb n2 _ _ r1) r2) (n1.trans n2)
theorem ev_tup {es} (h : evE F (.tup es) env = some (d, env')) : ∃ xs, evL F es env = some (xs, env') ∧ xs.length ≤ lim ∧ d = .tup xs := by
  rw [evE] at h
  obtain ⟨⟨xs, e1⟩, h1, h⟩ := bind_some h
  simp only [Option.ite_none_right_eq_some, Option.some.injEq, Prod.mk.injEq] at h
  obtain ⟨h2, rfl, rfl⟩ := h
  exact ⟨xs, h1, h2, rfl⟩
theorem ev_lst {es} (h : evE F (.lst es) env = some (d, env')) : ∃ xs, evL F es env = some (xs, env') ∧ xs.length ≤ lim ∧ d = .lst xs := by
  rw [evE] at h
  obtain ⟨⟨xs, e1⟩, h1, h⟩ := bind_some h
  simp only [Option.ite_none_right_eq_some, Option.some.injEq, Prod.mk.injEq] at h
  obtain ⟨h2, rfl, rfl⟩ := h
  exact ⟨xs, h1, h2, rfl⟩
theorem r_tup {es : Ex} {xs : List Expr} {k pos} (hs : PA X xs (tL C es)) : PE X (.Tuple xs k pos) (tE C (.tup es)) :=
  (pe_tup hs).imp fun σ H Q h => by
    obtain ⟨B, M, env, d, env', s, e, q⟩ := h
    obtain ⟨xs, h1, h2, rfl⟩ := ev_tup e
    refine ⟨B, M, env, xs, env', s, h1, fun vs H1 B1 M1 s1 r1 n1 => ⟨by rw [r1.len]; exact Nat.le_trans h2 lim_le, fun p hp => ?_⟩⟩
    exact q _ _ B1 M1 (s1.al (Al.new hp)) ⟨p, vs, rfl, .inl (.inl upd_same), r1.al s1.bl (Al.new hp)⟩ (n1.trans (Al.new hp).nx)
/-- a new list, laid at last -/
theorem new_list {H H1 : Hp} {B M B1 M1 : AP'} {σ : L2.St} {env' : Env} {xs : List D} {vs : List V} {p : Addr} {Q : VK} (s1 : Sim C H1 B1 M1 σ env') (r1 : RepL C.K H1 B1 xs vs) (n1 : Nx H B M H1 B1 M1) (hp : H1 p = none)
    (q : ∀ p vs H' B' M', Sim C H' (ins p B') M' σ env' → H' p = some (.lst vs) → RepL C.K H' (ins p B') xs vs → ¬ B' p → (∀ a, M' a → B' a) → (∀ a, C.B0 a → B' a) → H p = none → Nx H B M H' B' M' → Q (.ref p) H') : Q (.ref p) (upd H1 p (.lst vs)) := by
  refine q p vs _ B1 M1 (s1.lay hp) upd_same (r1.lay s1.bl hp) (fun z => ?_) s1.mb s1.lo (n1.al p hp) (n1.trans (Al.new hp).nx)
  obtain ⟨_, z⟩ := s1.bl p z; rw [hp] at z; cases z
theorem r_lst {es : Ex} {xs : List Expr} {pos} (hs : PA X xs (tL C es)) : PE X (.List xs pos) (tN C (.lst es)) :=
  (pe_lst hs).imp fun σ H Q h => by
    obtain ⟨B, M, env, ds, env', s, e, q⟩ := h
    obtain ⟨xs, h1, h2, e3⟩ := ev_lst e
    cases e3
    refine ⟨B, M, env, ds, env', s, h1, fun vs H1 B1 M1 s1 r1 n1 => ⟨by rw [r1.len]; exact Nat.le_trans h2 lim_le, fun p hp => ?_⟩⟩
    exact new_list s1 r1 n1 hp q
/-- two lists, one behind the other: a new list -/
theorem r_catN {a b : Ex} {ea eb : Expr} {pos : Pos} (ha : PE X ea (tE C a)) (hb : PE X eb (tE C b)) : PE X (.BinOp ea .Add eb pos) (tN C (.bin .add a b)) :=
  (pe_op op_cat ha hb).imp fun σ H Q h => by
    obtain ⟨B, M, env, zs, env', s, e, q⟩ := h
    obtain ⟨x, e1, y, h1, h2, h3⟩ := ev_bin e
    obtain ⟨xs, ys, rfl, rfl, hl, rfl⟩ : ∃ xs ys, x = .lst xs ∧ y = .lst ys ∧ xs.length + ys.length ≤ lim ∧ zs = xs ++ ys := by
      unfold opB at h3
      split at h3 <;> simp only [reduceCtorEq, Option.some.injEq, Option.ite_none_right_eq_some, and_false] at *
      obtain ⟨k1, k2⟩ := h3
      cases k2
      exact ⟨_, _, rfl, rfl, k1, rfl⟩
    refine ⟨B, M, env, _, e1, s, h1, fun v H1 B1 M1 s1 r1 n1 => ⟨B1, M1, e1, _, env', s1, h2, fun u H2 B2 M2 s2 r2 n2 => ?_⟩⟩
    obtain ⟨p, vs, rfl, g1, nb1, l1⟩ := Rep.nx s1.bl s1.mb n2 _ _ r1
    obtain ⟨p2, ws, rfl, g2, nb2, l2⟩ := r2
    exact ⟨_, _, _, _, rfl, rfl, g1, g2, by rw [l1.len, l2.len]; exact Nat.le_trans hl lim_le, fun p3 h3 => new_list s2 (l1.app l2) (n1.trans n2) h3 q⟩
theorem ev_lst_is {es} {env : Env} {d : D} {env' : Env} (h : evE F (.lst es) env = some (d, env')) : ∃ xs, d = .lst xs := let ⟨xs, _, _, e⟩ := ev_lst h; ⟨xs, e⟩
/-! ### built-ins -/
theorem ev_blt {f es} (h : evE F (.blt f es) env = some (d, env')) : ∃ xs, evL F es env = some (xs, env') ∧ opF f xs = some d := by
  rw [evE] at h
  obtain ⟨⟨xs, e1⟩, h1, h⟩ := bind_some h
  obtain ⟨r, h2, h⟩ := bind_some h
  cases h
  exact ⟨xs, h1, h2⟩
theorem blt_op {f : BF} {es : Ex} {r : List V → Hp → VK → Prop} (hr : ∀ xs H Q, rF C.K (opF f) xs H Q → r xs H Q) {σ : L2.St} {H : Hp} {Q : VK} (h : tE C (.blt f es) σ H Q) : tCB r (tL C es) σ H Q := by
  obtain ⟨B, M, env, d, env', s, e, q⟩ := h
  obtain ⟨xs, h1, h2⟩ := ev_blt e
  refine ⟨B, M, env, xs, env', s, h1, fun vs H1 B1 M1 s1 r1 n1 => hr _ _ _ ⟨B1, xs, d, s1.bl, r1, h2, fun z H2 al r2 => ?_⟩⟩
  exact q z H2 B1 M1 (s1.al al) r2 (n1.trans al.nx)
theorem star_any : ∀ {es : List Expr} {env : PySem.Env} {pos : Pos}, es.all nst = true → (backTo pos (starEach es env)).any (·.1) = false
  | [], _, _, _ => rfl
  | e :: es, env, pos, h => by
    simp only [List.all_cons, Bool.and_eq_true] at h
    rw [star_cons h.1]
    have := star_any (env := env) (pos := pos) h.2
    simpa [backTo] using this
theorem r_bltB {f : BF} {id : String} {x : PySem.Str} {p pos : Pos} {a : Expr} {args : List Expr} {es : Ex} (hK : X.K = C.K) (hc : CallR X (.builtin id) (rF X.K (opF f))) (hg : Gl X x) (hm : X.mg x = none) (hv : bootBuiltins x = some (.builtin id)) (hn : x ≠ "__name__") (hd : (x == ("__debug__" : PySem.Str)) = false)
    (h1 : nst a = true) (h2 : args.all nst = true) (ha : PA X (a :: args) (tL C es)) : PE X (.Call (.Name x p) (a :: args) [] pos) (tE C (.blt f es)) :=
  (pe_callB hc hg hm hv ha hn hd (star_cons h1) (star_any h2)).imp fun σ H Q h => blt_op (fun _ _ _ q => hK ▸ q) h
theorem r_bltT {f : BF} {id : String} {x : PySem.Str} {p pos : Pos} {a : Expr} {args : List Expr} {es : Ex} (hK : X.K = C.K) (hc : CallR X (.type id) (rF X.K (opF f))) (hg : Gl X x) (hm : X.mg x = none) (hv : bootBuiltins x = some (.type id)) (hn : x ≠ "__name__") (hd : (x == ("__debug__" : PySem.Str)) = false)
    (h1 : nst a = true) (h2 : args.all nst = true) (ha : PA X (a :: args) (tL C es)) : PE X (.Call (.Name x p) (a :: args) [] pos) (tE C (.blt f es)) :=
  (pe_callTy hc hg hm hv ha hn hd (star_cons h1) (star_any h2)).imp fun σ H Q h => blt_op (fun _ _ _ q => hK ▸ q) h
theorem r_bltM {f : BF} {id : String} {x : PySem.Str} {p pos : Pos} {a : Expr} {args : List Expr} {es : Ex} (hK : X.K = C.K) (hc : CallR X (.builtin id) (rF X.K (opF f))) (hg : Gl X x) (hm : X.mg x = some (.builtin id)) (hd : (x == ("__debug__" : PySem.Str)) = false)
    (h1 : nst a = true) (h2 : args.all nst = true) (ha : PA X (a :: args) (tL C es)) : PE X (.Call (.Name x p) (a :: args) [] pos) (tE C (.blt f es)) :=
  (pe_callBfun hc hg hm ha hd (star_cons h1) (star_any h2)).imp fun σ H Q h => blt_op (fun _ _ _ q => hK ▸ q) h
theorem r_isi {t : String} {y : PySem.Str} {p py pos : Pos} {a : Expr} {e : Ex} (hK : X.K = C.K) (hg : Gl X ("isinstance" : PySem.Str)) (hm : X.mg "isinstance" = none) (hg2 : Gl X y) (hm2 : X.mg y = none) (hv2 : bootBuiltins y = some (.type t)) (hn2 : y ≠ "__name__") (hd2 : (y == ("__debug__" : PySem.Str)) = false)
    (h1 : nst a = true) (ha : PE X a (tE C e)) : PE X (.Call (.Name "isinstance" p) [a, .Name y py] [] pos) (tE C (.blt (.isi t) (.cons e .nil))) :=
  (pe_callB call_isi hg hm (by decide +kernel) (pa_cons ha (pa_cons (pe_bltn (v := .ty t) hg2 hm2 hv2 rfl hn2 hd2) pa_nil) (star_cons h1)) (by decide) (by decide) (star_cons h1) rfl).imp fun σ H Q h => by
    obtain ⟨B, M, env, d, env', s, e, q⟩ := h
    obtain ⟨xs, h1, h2⟩ := ev_blt e
    obtain ⟨x, e1, xs, h3, h4, rfl⟩ := ev_cons h1
    rw [evL] at h4; cases h4
    refine ⟨B, M, env, x, _, s, h3, fun v H1 B1 M1 s1 r1 n1 => ?_⟩
    have h5 : (∀ c ks xs, x ≠ .obj c ks xs) ∧ (∀ a, x ≠ .adr a) ∧ (kitB (tyOf x) t).map D.bl = some d := by
      cases x <;> first | exact ⟨(fun _ _ _ z => nomatch z), (fun _ z => nomatch z), h2⟩ | (simp [opF] at h2; done)
    obtain ⟨n1', n2', h5⟩ := h5
    simp only [Option.map_eq_some_iff] at h5
    obtain ⟨k, h6, rfl⟩ := h5
    exact ⟨v, .ty t, _, _, k, rfl, .ty t, tyX_of n1' n2' (hK ▸ r1), kit_ty h6, q _ H1 B1 M1 s1 rfl n1⟩
end Mn

namespace Mn
open PySem L2 RZ
variable {C : Ctx} {X : Cx} {F : FT} {env env' : Env} {d : D}

/-! ### tests -/
theorem rep_tru {K : PySem.W.Frag} {H : Hp} {B : AP'} {v : V} {k : Bool} : ∀ {d : D}, Rep K H B d v → tru d = some k → TruV K v H k
  | .non, h, e => by cases h; cases e; rfl
  | .bl b, h, e => by cases h; cases e; rfl
  | .int b, h, e => by cases h; cases e; rfl
  | .str b, h, e => by
    cases h
    simp only [tru, Option.ite_none_right_eq_some, Option.some.injEq] at e
    exact ⟨Nat.le_trans e.1 lim_le, e.2.symm⟩
  | .tup xs, h, e => by
    obtain ⟨a, vs, rfl, h1, r⟩ := h
    cases e
    exact .inr (.inl ⟨vs, h1, by rw [r.emp]⟩)
  | .lst xs, h, e => by
    obtain ⟨a, vs, rfl, h1, _, r⟩ := h
    cases e
    exact .inl ⟨vs, .inl (.inl h1), by rw [r.emp]⟩
  | .scr ns, h, e => by unfold tru at e; cases e
theorem plain_true {e : Expr} {env : PySem.Env} (h : plain e = true) (whole : Sem Value) : isTrue e env whole = (do let v ← whole; standAt e.pos; holding [v] (truthy v)) := by
  cases e with
  | UnaryOp op a p => cases op <;> first | rfl | cases h
  | _ => first | rfl | cases h
theorem ev_tval {a} {k : Bool} (h : evT F (.tval a) env = some (k, env')) : ∃ x, evE F a env = some (x, env') ∧ tru x = some k := by
  rw [evT] at h
  obtain ⟨⟨x, e1⟩, h1, h⟩ := bind_some h
  obtain ⟨b, h2, h⟩ := bind_some h
  cases h
  exact ⟨x, h1, h2⟩
theorem r_tval {a : Ex} {ea : Expr} (hK : X.K = C.K) (hp : plain ea = true) (ha : PE X ea (tE C a)) : PT X ea (tT C (.tval a)) :=
  (pt_truth ha (plain_true hp)).imp fun σ H Q h => by
    obtain ⟨B, M, env, k, env', s, e, q⟩ := h
    obtain ⟨x, h1, h2⟩ := ev_tval e
    exact ⟨B, M, env, x, env', s, h1, fun v H1 B1 M1 s1 r1 n1 => ⟨k, hK ▸ rep_tru r1 h2, q H1 B1 M1 s1 n1⟩⟩
theorem r_tcmp {o : CO} {a b : Ex} {ea eb : Expr} {pos : Pos} (hK : X.K = C.K) (hu : X.A.units + 64 < cLine) (ha : PE X ea (tE C a)) (hb : PE X eb (tE C b)) (hm : behindInMarks (oC o) eb = false) : PT X (.Compare ea [oC o] [eb] pos) (tT C (.tval (.cmp o a b))) :=
  (pt_cmpR (op_cmpM hu o) ha hb hm).imp fun σ H Q h => by
    obtain ⟨B, M, env, k, env', s, e, q⟩ := h
    obtain ⟨x, h1, h2⟩ := ev_tval e
    obtain ⟨_, _, _, r, _, _, _, rfl⟩ := ev_cmp h1
    cases h2
    refine two_op (f := fun a b => (opC o a b).map D.bl) (fun h => ?_) (fun _ _ _ _ q => hK ▸ q) (w := .cmp o a b) ⟨B, M, env, _, env', s, h1, fun v H1 B1 M1 s1 r1 n1 => ?_⟩
    · obtain ⟨x, e1, y, r, h1, h2, h3, rfl⟩ := ev_cmp h
      exact ⟨x, e1, y, h1, h2, by rw [h3] <;> rfl⟩
    · cases r1
      exact ⟨_, rfl, q H1 B1 M1 s1 n1⟩
theorem ev_tnot {a} {k : Bool} (h : evT F (.tnot a) env = some (k, env')) : ∃ x, evT F a env = some (x, env') ∧ k = !x := by
  rw [evT] at h
  obtain ⟨⟨x, e1⟩, h1, h⟩ := bind_some h
  cases h
  exact ⟨x, h1, rfl⟩
theorem r_tnot {a : Ex} {ea : Expr} {pos : Pos} (ha : PT X ea (tT C a)) : PT X (.UnaryOp .Not ea pos) (tT C (.tnot a)) :=
  (pt_not ha).imp fun σ H Q h => by
    obtain ⟨B, M, env, k, env', s, e, q⟩ := h
    obtain ⟨x, h1, rfl⟩ := ev_tnot e
    exact ⟨B, M, env, x, env', s, h1, q⟩
theorem ev_tand {a b} {k : Bool} (h : evT F (.tand a b) env = some (k, env')) : ∃ x e1, evT F a env = some (x, e1) ∧ (if x = true then evT F b e1 = some (k, env') else k = false ∧ env' = e1) := by
  rw [evT] at h
  obtain ⟨⟨x, e1⟩, h1, h⟩ := bind_some h
  refine ⟨x, e1, h1, ?_⟩
  cases x
  · cases h; exact ⟨rfl, rfl⟩
  · exact h
theorem ev_tor {a b} {k : Bool} (h : evT F (.tor a b) env = some (k, env')) : ∃ x e1, evT F a env = some (x, e1) ∧ (if x = true then k = true ∧ env' = e1 else evT F b e1 = some (k, env')) := by
  rw [evT] at h
  obtain ⟨⟨x, e1⟩, h1, h⟩ := bind_some h
  refine ⟨x, e1, h1, ?_⟩
  cases x
  · exact h
  · cases h; exact ⟨rfl, rfl⟩
theorem r_tand {a b : Ex} {ea eb : Expr} {rest : List Expr} {pos : Pos} (ha : PT X ea (tT C a)) (hb : PW X (.BoolOp .And (eb :: rest) pos) (tT C b)) : PW X (.BoolOp .And (ea :: eb :: rest) pos) (tT C (.tand a b)) :=
  (pw_and ha hb).imp fun σ H Q h => by
    obtain ⟨B, M, env, k, env', s, e, q⟩ := h
    obtain ⟨x, e1, h1, h2⟩ := ev_tand e
    refine ⟨B, M, env, x, e1, s, h1, fun H1 B1 M1 s1 n1 => ?_⟩
    cases x with
    | true => exact ⟨B1, M1, e1, k, env', s1, h2, fun H2 B2 M2 s2 n2 => q H2 B2 M2 s2 (n1.trans n2)⟩
    | false => obtain ⟨e5, e6⟩ := h2; subst e5; subst e6; exact q H1 B1 M1 s1 n1
theorem r_tor {a b : Ex} {ea eb : Expr} {rest : List Expr} {pos : Pos} (ha : PT X ea (tT C a)) (hb : PW X (.BoolOp .Or (eb :: rest) pos) (tT C b)) : PW X (.BoolOp .Or (ea :: eb :: rest) pos) (tT C (.tor a b)) :=
  (pw_or ha hb).imp fun σ H Q h => by
    obtain ⟨B, M, env, k, env', s, e, q⟩ := h
    obtain ⟨x, e1, h1, h2⟩ := ev_tor e
    refine ⟨B, M, env, x, e1, s, h1, fun H1 B1 M1 s1 n1 => ?_⟩
    cases x with
    | false => exact ⟨B1, M1, e1, k, env', s1, h2, fun H2 B2 M2 s2 n2 => q H2 B2 M2 s2 (n1.trans n2)⟩
    | true => obtain ⟨e5, e6⟩ := h2; subst e5; subst e6; exact q H1 B1 M1 s1 n1
theorem ev_tvar {i} {k : Bool} (h : evT F (.tvar i) env = some (k, env')) : ∃ d, peek env i = some d ∧ tru d = some k ∧ env' = env := by
  rw [evT] at h
  obtain ⟨d, h1, h⟩ := bind_some h
  obtain ⟨b, h2, h⟩ := bind_some h
  cases h
  exact ⟨d, h1, h2, rfl⟩
theorem r_tvar {i : Nat} {x : PySem.Str} {pos : Pos} (hK : X.K = C.K) (hN : X.N[i]? = some x) (hv : Vis X.env.scope x) (hd : (x == ("__debug__" : PySem.Str)) = false) (hcd : (x == ("__classdict__" : PySem.Str)) = false) : PT X (.Name x pos) (tT C (.tvar i)) :=
  (pt_truth (pe_var hN hv hd hcd) (by intro _; rfl)).imp fun σ H Q h => by
    obtain ⟨B, M, env, k, env', s, e, q⟩ := h
    obtain ⟨d, h1, h2, e5⟩ := ev_tvar e
    subst e5
    obtain ⟨v, e1, r⟩ := s.peek h1
    exact ⟨v, e1, k, rep_tru (hK ▸ r) h2, q H B M s (Nx.refl _ _ _)⟩
/-! ### an item of a list that may change, its length -/
theorem ev_ixv {i e} (h : evE F (.ixv i e) env = some (d, env')) : ∃ k x y, peek env i = some y ∧ evE F e env = some (k, env') ∧ peek env' i = some x ∧ opIx x k = some d := by
  rw [evE] at h
  obtain ⟨y, h0, h⟩ := bind_some h
  obtain ⟨⟨k, e1⟩, h1, h⟩ := bind_some h
  obtain ⟨x, h2, h⟩ := bind_some h
  obtain ⟨r, h3, h⟩ := bind_some h
  cases h
  exact ⟨k, x, y, h0, h1, h2, h3⟩
theorem atI_rep {K : PySem.W.Frag} {H : Hp} {B : AP'} {xs : List D} {vs : List V} {j : Int} {d : D} (g : RepL K H B xs vs) (h : atI xs j = some d) : ∃ z, atI vs j = some z ∧ Rep K H B d z := by
  unfold atI at h ⊢
  rw [g.len]
  cases z : ixN xs.length j with
  | none => rw [z] at h; cases h
  | some n => rw [z] at h; exact g.get h
/-- what stands in a slot, as a list or a tuple -/
theorem Sim.seq {H : Hp} {B M : AP'} {σ : L2.St} (s : Sim C H B M σ env) {i : Nat} {x : D} (hp : Mn.peek env i = some x) :
    ∃ v, σ[i]? = some (some v) ∧ ((∃ xs a vs, x = .lst xs ∧ v = .ref a ∧ H a = some (.lst vs) ∧ RepL C.K H B xs vs) ∨ (∃ xs a vs, x = .tup xs ∧ v = .ref a ∧ SqT C.K H a vs ∧ RepL C.K H B xs vs) ∨ ((∀ xs, x ≠ .lst xs) ∧ (∀ xs, x ≠ .tup xs) ∧ Rep C.K H B x v)) := by
  unfold Mn.peek at hp
  split at hp
  · rename_i d hd
    cases hp
    obtain ⟨v, e, r⟩ := s.val i _ hd
    refine ⟨v, e, ?_⟩
    cases x with
    | lst xs => obtain ⟨a, vs, rfl, h1, _, h2⟩ := r; exact .inl ⟨xs, a, vs, rfl, rfl, h1, h2⟩
    | tup xs => obtain ⟨a, vs, rfl, h1, h2⟩ := r; exact .inr (.inl ⟨xs, a, vs, rfl, rfl, h1, h2⟩)
    | _ => exact .inr (.inr ⟨fun _ z => (nomatch z), fun _ z => (nomatch z), r⟩)
  · cases hp
    obtain ⟨a, vs, e, q, r, _⟩ := s.own i _ (by assumption)
    exact ⟨_, e, .inl ⟨_, a, vs, rfl, rfl, q, r⟩⟩
  · cases hp
    obtain ⟨a, vs, _, e, q, r, _⟩ := s.par i _ (by assumption)
    exact ⟨_, e, .inl ⟨_, a, vs, rfl, rfl, q, r⟩⟩
  · cases hp
theorem r_ixv {i : Nat} {x : PySem.Str} {e : Ex} {ee : Expr} {p pos : Pos} (hK : X.K = C.K) (hN : X.N[i]? = some x) (hv : Vis X.env.scope x) (hd : (x == ("__debug__" : PySem.Str)) = false) (hcd : (x == ("__classdict__" : PySem.Str)) = false) (hs : notSl ee = true) (he : PE X ee (tE C e)) :
    PE X (.Subscript (.Name x p) ee pos) (tE C (.ixv i e)) :=
  (pe_ix (ix_list.or ix_tup) (pe_var hN hv hd hcd) he (fun o i => by cases ee <;> first | rfl | cases hs)).imp fun σ H Q h => by
    obtain ⟨B, M, env, d, env', s, ev, q⟩ := h
    obtain ⟨k, x, y, h0, h1, h2, h3⟩ := ev_ixv ev
    obtain ⟨v, hσ, _⟩ := s.seq h0
    refine ⟨v, hσ, B, M, env, k, env', s, h1, fun w H1 B1 M1 s1 r1 n1 => ?_⟩
    obtain ⟨v', e', c⟩ := s1.seq h2
    rw [hσ] at e'; cases e'
    rcases c with ⟨xs, a, vs, rfl, rfl, c1, c2⟩ | ⟨xs, a, vs, rfl, rfl, c1, c2⟩ | ⟨c1, c2, _⟩
    · cases k <;> simp only [opIx, reduceCtorEq] at h3
      cases r1
      obtain ⟨z, z1, z2⟩ := atI_rep c2 h3
      exact .inl ⟨a, vs, _, z, rfl, rfl, .inl (.inl c1), z1, q z H1 B1 M1 s1 z2 n1⟩
    · cases k <;> simp only [opIx, reduceCtorEq] at h3
      cases r1
      obtain ⟨z, z1, z2⟩ := atI_rep c2 h3
      exact .inr ⟨a, vs, _, z, rfl, rfl, hK ▸ c1, z1, q z H1 B1 M1 s1 z2 n1⟩
    · rename_i c3
      cases x with
      | scr ns =>
        obtain ⟨a, rfl, c3⟩ := c3
        cases k <;> simp only [opIx, reduceCtorEq] at h3
        cases r1
        rw [Option.map_eq_some_iff] at h3
        obtain ⟨z, h3, rfl⟩ := h3
        exact .inl ⟨a, _, _, _, rfl, rfl, hK ▸ c3.sq, atI_map h3, q _ H1 B1 M1 s1 rfl n1⟩
      | lst xs => exact absurd rfl (c1 xs)
      | tup xs => exact absurd rfl (c2 xs)
      | _ => simp [opIx] at h3
theorem ev_lenv {i} (h : evE F (.lenv i) env = some (d, env')) : ∃ x, Mn.peek env i = some x ∧ opF .len [x] = some d ∧ env' = env := by
  rw [evE] at h
  obtain ⟨x, h2, h⟩ := bind_some h
  obtain ⟨r, h3, h⟩ := bind_some h
  cases h
  exact ⟨x, h2, h3, rfl⟩
theorem r_lenv {i : Nat} {x : PySem.Str} {p p2 pos : Pos} (hK : X.K = C.K) (hg : Gl X "len") (hm : X.mg "len" = none) (hN : X.N[i]? = some x) (hv : Vis X.env.scope x) (hd : (x == ("__debug__" : PySem.Str)) = false) (hcd : (x == ("__classdict__" : PySem.Str)) = false) :
    PE X (.Call (.Name "len" p) [.Name x p2] [] pos) (tE C (.lenv i)) :=
  (pe_callB call_len hg hm PySem.boot_len (pa_cons (pe_var hN hv hd hcd) pa_nil)).imp fun σ H Q h => by
    obtain ⟨B, M, env, d, env', s, ev, q⟩ := h
    obtain ⟨x, h2, h3, e5⟩ := ev_lenv ev
    subst e5
    obtain ⟨v, e', c⟩ := s.seq h2
    refine ⟨v, e', ?_⟩
    rcases c with ⟨xs, a, vs, rfl, rfl, c1, c2⟩ | ⟨xs, a, vs, rfl, rfl, c1, c2⟩ | ⟨c1, c2, c3⟩
    · cases h3
      exact ⟨_, vs.length, rfl, .inl ⟨vs, .inl (.inl c1), rfl⟩, by rw [c2.len]; exact q _ H B M s rfl (Nx.refl _ _ _)⟩
    · cases h3
      exact ⟨_, vs.length, rfl, .inr ⟨vs, hK ▸ c1, rfl⟩, by rw [c2.len]; exact q _ H B M s rfl (Nx.refl _ _ _)⟩
    · cases x with
      | str z =>
        cases c3
        simp only [opF, Option.ite_none_right_eq_some, Option.some.injEq] at h3
        obtain ⟨h4, rfl⟩ := h3
        exact ⟨_, _, rfl, ⟨Nat.le_trans h4 lim_le, rfl⟩, q _ H B M s rfl (Nx.refl _ _ _)⟩
      | lst xs => exact absurd rfl (c1 xs)
      | tup xs => exact absurd rfl (c2 xs)
      | scr ns =>
        obtain ⟨a, rfl, c3⟩ := c3
        cases h3
        exact ⟨_, _, rfl, .inl ⟨_, hK ▸ c3.sq, rfl⟩, by rw [List.length_map]; exact q _ H B M s rfl (Nx.refl _ _ _)⟩
      | _ => simp [opF] at h3
end Mn

namespace Mn
open PySem L2 RZ
variable {C : Ctx} {X : Cx} {F : FT} {env env' : Env} {d : D}

/-! ### slices -/
theorem _root_.L2.PO.imp {X : Cx} {e : Option Expr} {t t' : TO} (h : PO X e t) (i : ∀ σ H Q, t' σ H Q → t σ H Q) : PO X e t' := ⟨fun pins s σ H Q I q => h.run pins s σ H Q I (i σ H Q q)⟩
def tO (C : Ctx) (x : Ex) : TO := fun σ H Q => ∃ B M env o env', Sim C H B M σ env ∧ evO C.F x env = some (o, env') ∧ ∀ H' B' M', Sim C H' B' M' σ env' → Nx H B M H' B' M' → Q o H'
theorem r_onone : PO X none (tO C .nil) := po_none.imp fun σ H Q h => by
  obtain ⟨B, M, env, k, env', s, e, q⟩ := h
  rw [evO] at e; cases e
  exact q H B M s (Nx.refl _ _ _)
theorem r_osome {a : Ex} {ea : Expr} (ha : PE X ea (tE C a)) : PO X (some ea) (tO C (.tval a)) := (po_some ha).imp fun σ H Q h => by
  obtain ⟨B, M, env, k, env', s, e, q⟩ := h
  rw [evO] at e
  obtain ⟨⟨x, e1⟩, h1, h⟩ := bind_some e
  cases x <;> first | (cases h; done) | skip
  cases h
  refine ⟨B, M, env, _, _, s, h1, fun v H1 B1 M1 s1 r1 n1 => ?_⟩
  cases r1
  exact ⟨_, rfl, q H1 B1 M1 s1 n1⟩
theorem ev_slc {a lo hi} (h : evE F (.slc a lo hi) env = some (d, env')) : ∃ x e1 l e2 u, evE F a env = some (x, e1) ∧ evO F lo e1 = some (l, e2) ∧ evO F hi e2 = some (u, env') ∧ opSl x l u = some d := by
  rw [evE] at h
  obtain ⟨⟨x, e1⟩, h1, h⟩ := bind_some h
  obtain ⟨⟨l, e2⟩, h2, h⟩ := bind_some h
  obtain ⟨⟨u, e3⟩, h3, h⟩ := bind_some h
  obtain ⟨r, h4, h⟩ := bind_some h
  cases h
  exact ⟨x, e1, l, e2, u, h1, h2, h3, h4⟩
theorem RepL.cut {K : PySem.W.Frag} {H : Hp} {B : AP'} {xs : List D} {vs : List V} (g : RepL K H B xs vs) (l h : Option Int) : RepL K H B (cutD xs l h) (cutV vs l h) := by
  unfold cutD cutV
  rw [g.len]
  exact (g.drop _).take _
theorem RepL.ints {K : PySem.W.Frag} {H : Hp} {B : AP'} : ∀ ns : List Int, RepL K H B (ns.map D.int) (ns.map V.int)
  | [] => rfl
  | i :: r => ⟨_, _, rfl, rfl, RepL.ints r⟩
theorem r_slc {a lo hi : Ex} {ea : Expr} {el eh : Option Expr} {p2 pos : Pos} (hK : X.K = C.K) (ha : PE X ea (tE C a)) (hl : PO X el (tO C lo)) (hh : PO X eh (tO C hi)) : PE X (.Subscript ea (.Slice el eh none p2) pos) (tE C (.slc a lo hi)) :=
  (pe_slice ((sl_list.or sl_tupA).or sl_str) ha hl hh).imp fun σ H Q h => by
    obtain ⟨B, M, env, d, env', s, e, q⟩ := h
    obtain ⟨x, e1, l, e2, u, h1, h2, h3, h4⟩ := ev_slc e
    refine ⟨B, M, env, x, e1, s, h1, fun v H1 B1 M1 s1 r1 n1 => ⟨B1, M1, e1, l, e2, s1, h2, fun H2 B2 M2 s2 n2 => ⟨B2, M2, e2, u, env', s2, h3, fun H3 B3 M3 s3 n3 => ?_⟩⟩⟩
    have r3 := Rep.nx s2.bl s2.mb n3 _ _ (Rep.nx s1.bl s1.mb n2 _ _ r1)
    have n := (n1.trans n2).trans n3
    unfold opSl at h4
    split at h4
    · cases h4
      obtain ⟨b, vs, rfl, c1, _, g⟩ := r3
      refine .inl (.inl ⟨b, vs, rfl, .inl (.inl c1), fun p hp => q _ _ B3 M3 (s3.al (Al.new hp)) ⟨p, _, rfl, upd_same, fun z => ?_, (g.cut l u).al s3.bl (Al.new hp)⟩ (n.trans (Al.new hp).nx)⟩)
      obtain ⟨_, z⟩ := s3.bl _ z; rw [hp] at z; cases z
    · cases h4
      obtain ⟨b, vs, rfl, c1, g⟩ := r3
      refine .inl (.inr ⟨b, vs, rfl, hK ▸ c1, fun w => q _ H3 B3 M3 s3 ⟨b, vs, rfl, c1, ?_⟩ n, fun _ p hp => q _ _ B3 M3 (s3.al (Al.new hp)) ⟨p, _, rfl, .inl (.inl upd_same), (g.cut l u).al s3.bl (Al.new hp)⟩ (n.trans (Al.new hp).nx)⟩)
      have := g.cut l u
      unfold cutV at this
      rw [w.1, w.2] at this
      simpa using this
    · cases h4
      obtain ⟨b, rfl, c1⟩ := r3
      refine .inl (.inl ⟨b, _, rfl, hK ▸ c1.sq, fun p hp => q _ _ B3 M3 (s3.al (Al.new hp)) ⟨p, _, rfl, upd_same, fun z => ?_, ((RepL.ints _).cut l u).al s3.bl (Al.new hp)⟩ (n.trans (Al.new hp).nx)⟩)
      obtain ⟨_, z⟩ := s3.bl _ z; rw [hp] at z; cases z
    · cases r3
      simp only [Option.ite_none_right_eq_some, Option.some.injEq] at h4
      obtain ⟨h5, rfl⟩ := h4
      exact .inr ⟨_, rfl, Nat.le_trans h5 lim_le, q _ H3 B3 M3 s3 rfl n⟩
    · cases h4

/-! ### arguments -/
def ArL (K : PySem.W.Frag) (H : Hp) (B : AP') (σ : L2.St) : List Ar → List V → Prop
  | [], vs => vs = []
  | .v d :: r, vs => ∃ v t, vs = v :: t ∧ Rep K H B d v ∧ ArL K H B σ r t
  | .r i :: r, vs => ∃ v t, vs = v :: t ∧ σ[i]? = some (some v) ∧ ArL K H B σ r t
def tA (C : Ctx) (x : Ex) : TA := fun σ H Q => ∃ B M env as env', Sim C H B M σ env ∧ evA C.F x env = some (as, env') ∧
  ∀ vs H' B' M', Sim C H' B' M' σ env' → ArL C.K H' B' σ as vs → Nx H B M H' B' M' → Q vs H'
theorem r_anil : PA X [] (tA C .nil) := pa_nil.imp fun σ H Q h => by
  obtain ⟨B, M, env, d, env', s, e, q⟩ := h
  rw [evA] at e; cases e
  exact q [] H B M s rfl (Nx.refl _ _ _)
theorem ev_acons {e es} {ds : List Ar} (h : evA F (.cons e es) env = some (ds, env')) : ∃ x e1 xs, evAr F e env = some (x, e1) ∧ evA F es e1 = some (xs, env') ∧ ds = x :: xs := by
  rw [evA] at h
  obtain ⟨⟨x, e1⟩, h1, h⟩ := bind_some h
  obtain ⟨⟨xs, e2⟩, h2, h⟩ := bind_some h
  cases h
  exact ⟨x, e1, xs, h1, h2, rfl⟩
theorem r_acons {e es : Ex} {x : Expr} {xs : List Expr} (hn : nst x = true) (he : PE X x (tE C e)) (hs : PA X xs (tA C es)) : PA X (x :: xs) (tA C (.cons (.tval e) es)) :=
  (pa_cons he hs (star_cons hn)).imp fun σ H Q h => by
    obtain ⟨B, M, env, ds, env', s, e, q⟩ := h
    obtain ⟨x, e1, xs, h1, h2, rfl⟩ := ev_acons e
    rw [evAr] at h1
    obtain ⟨⟨y, e3⟩, h1, h⟩ := bind_some h1
    cases h
    refine ⟨B, M, env, y, e1, s, h1, fun v H1 B1 M1 s1 r1 n1 => ⟨B1, M1, e1, xs, env', s1, h2, fun vs H2 B2 M2 s2 r2 n2 => ?_⟩⟩
    exact q _ H2 B2 M2 s2 ⟨v, vs, rfl, Rep.nx s1.bl s1.mb n2 _ _ r1, r2⟩ (n1.trans n2)
theorem r_acons_ref {i : Nat} {y : PySem.Str} {p : Pos} {es : Ex} {xs : List Expr} (hN : X.N[i]? = some y) (hv : Vis X.env.scope y) (hd : (y == ("__debug__" : PySem.Str)) = false) (hcd : (y == ("__classdict__" : PySem.Str)) = false) (hs : PA X xs (tA C es)) :
    PA X (.Name y p :: xs) (tA C (.cons (.ref i) es)) :=
  (pa_cons (pe_var hN hv hd hcd) hs rfl).imp fun σ H Q h => by
    obtain ⟨B, M, env, ds, env', s, e, q⟩ := h
    obtain ⟨x, e1, xs, h1, h2, rfl⟩ := ev_acons e
    rw [evAr] at h1
    obtain ⟨z, h0, h1⟩ := bind_some h1
    cases h1
    obtain ⟨a, ws, e5, _⟩ := s.mut h0
    exact ⟨_, e5, B, M, env, xs, env', s, h2, fun vs H2 B2 M2 s2 r2 n2 => q _ H2 B2 M2 s2 ⟨_, vs, rfl, e5, r2⟩ n2⟩
/-! ### calls of defs -/
theorem perm_len {α : Type} : ∀ {xs ys : List α} {pm : List Nat}, permA xs pm = some ys → ys.length = pm.length
  | _, _, [], h => by cases h; rfl
  | xs, ys, i :: is, h => by
    unfold permA at h
    obtain ⟨x, h1, h⟩ := bind_some h
    obtain ⟨r, h2, h⟩ := bind_some h
    cases h
    simp [perm_len h2]
theorem ArL.get {K : PySem.W.Frag} {H : Hp} {B : AP'} {σ : L2.St} : ∀ {as : List Ar} {vs : List V} {i : Nat} {a : Ar}, ArL K H B σ as vs → as[i]? = some a → ∃ v, vs[i]? = some v ∧ (match a with | .v d => Rep K H B d v | .r j => σ[j]? = some (some v))
  | [], _, _, _, _, e => by simp at e
  | .v d :: r, _, 0, a, h, e => by obtain ⟨v, t, rfl, q, _⟩ := h; cases e; exact ⟨v, rfl, q⟩
  | .r j :: r, _, 0, a, h, e => by obtain ⟨v, t, rfl, q, _⟩ := h; cases e; exact ⟨v, rfl, q⟩
  | .v d :: r, _, i + 1, a, h, e => by
    obtain ⟨v, t, rfl, _, q⟩ := h
    obtain ⟨w, e1, q1⟩ := ArL.get (i := i) q (by simpa using e)
    exact ⟨w, by simpa using e1, q1⟩
  | .r d :: r, _, i + 1, a, h, e => by
    obtain ⟨v, t, rfl, _, q⟩ := h
    obtain ⟨w, e1, q1⟩ := ArL.get (i := i) q (by simpa using e)
    exact ⟨w, by simpa using e1, q1⟩
theorem ArL.perm {K : PySem.W.Frag} {H : Hp} {B : AP'} {σ : L2.St} {as : List Ar} {vs : List V} (h : ArL K H B σ as vs) : ∀ {pm : List Nat} {bs : List Ar}, permA as pm = some bs → ∃ ws, permA vs pm = some ws ∧ ArL K H B σ bs ws
  | [], bs, e => by cases e; exact ⟨[], rfl, rfl⟩
  | i :: is, bs, e => by
    unfold permA at e
    obtain ⟨x, h1, e⟩ := bind_some e
    obtain ⟨r, h2, e⟩ := bind_some e
    cases e
    obtain ⟨v, e1, q1⟩ := h.get h1
    obtain ⟨ws, e2, q2⟩ := ArL.perm h h2
    refine ⟨v :: ws, by unfold permA; rw [e1]; simp [e2], ?_⟩
    cases x <;> exact ⟨v, ws, rfl, q1, q2⟩
theorem perm_range {α : Type} (xs : List α) : permA xs (List.range xs.length) = some xs := by
  have h : ∀ (ys zs : List α), permA (ys ++ zs) ((List.range zs.length).map (· + ys.length)) = some zs := by
    intro ys zs
    induction zs generalizing ys with
    | nil => rfl
    | cons z zs ih =>
      rw [List.length_cons, List.range_succ_eq_map, List.map_cons, List.map_map]
      unfold permA
      have e1 : (ys ++ z :: zs)[0 + ys.length]? = some z := by simp
      rw [e1]
      have e2 := ih (ys ++ [z])
      rw [List.append_assoc, List.length_append, List.length_singleton] at e2
      have e3 : ((fun x => x + ys.length) ∘ Nat.succ) = (fun x => x + (ys.length + 1)) := by funext x; simp; omega
      rw [e3]
      have e4 : [z] ++ zs = z :: zs := rfl
      rw [e4] at e2
      rw [e2]
      rfl
  have := h [] xs
  simpa using this
/-- the arguments as the callee takes them -/
theorem argS_rel {H : Hp} {B M : AP'} {σ : L2.St} (s : Sim C H B M σ env) : ∀ {as : List Ar} {ss : List Sl} {vs : List V}, argS env as = some ss → ArL C.K H B σ as vs →
    ∃ ps, ArgR C.K H B ss vs ps ∧ RefR σ (refs as) ps ∧ ∀ i ∈ refs as, mutS env i ≠ none
  | [], ss, vs, e, h => by
    cases e; rw [show vs = [] from h]; exact ⟨[], ⟨rfl, rfl⟩, rfl, fun _ z => nomatch z⟩
  | .v d :: r, ss, vs, e, h => by
    obtain ⟨v, t, rfl, q, h⟩ := h
    simp only [argS, Option.map_eq_some_iff] at e
    obtain ⟨ts, e, rfl⟩ := e
    obtain ⟨ps, h1, h2, h3⟩ := argS_rel s e h
    exact ⟨ps, ⟨v, t, rfl, q, h1⟩, h2, h3⟩
  | .r i :: r, ss, vs, e, h => by
    obtain ⟨v, t, rfl, q, h⟩ := h
    unfold argS at e
    obtain ⟨xs, e1, e⟩ := bind_some e
    obtain ⟨ts, e2, e⟩ := bind_some e
    cases e
    obtain ⟨ps, h1, h2, h3⟩ := argS_rel s e2 h
    obtain ⟨a, ws, g1, g2, g3, g4⟩ := s.mut e1
    rw [q] at g1; cases g1
    refine ⟨a :: ps, ⟨a, t, ps, ws, rfl, rfl, g2, g3, s.mb a g4, h1⟩, ⟨a, ps, rfl, q, h2⟩, fun j hj => ?_⟩
    rcases List.mem_cons.mp hj with rfl | hj
    · rw [e1]; exact fun z => nomatch z
    · exact h3 j hj
theorem RefR.nodup {H : Hp} {B M : AP'} {σ : L2.St} (s : Sim C H B M σ env) : ∀ {is : List Nat} {ps : List Addr}, RefR σ is ps → is.Nodup → (∀ i ∈ is, mutS env i ≠ none) → ps.Nodup
  | [], _, h, _, _ => by rw [show _ = _ from h]; exact List.nodup_nil
  | i :: is, _, h, nd, hm => by
    obtain ⟨a, t, rfl, h1, h2⟩ := h
    have nd2 := List.nodup_cons.mp nd
    refine List.nodup_cons.mpr ⟨fun z => ?_, RefR.nodup s h2 nd2.2 fun j hj => hm j (List.mem_cons_of_mem _ hj)⟩
    obtain ⟨j, hj, e⟩ := h2.get' z
    cases m1 : mutS env i with
    | none => exact hm i List.mem_cons_self m1
    | some xs =>
      cases m2 : mutS env j with
      | none => exact hm j (List.mem_cons_of_mem _ hj) m2
      | some ys =>
        have := s.inj i j xs ys a m1 m2 h1 e
        exact nd2.1 (this ▸ hj)
theorem ev_call {f pm es} (h : evE F (.call f pm es) env = some (d, env')) : ∃ as e1 bs ss outs, evA F es env = some (as, e1) ∧ permA as pm = some bs ∧ (refs bs).Nodup ∧ argS e1 bs = some ss ∧ F f ss = some (d, outs) ∧ putBack (refs bs) outs e1 = some env' := by
  rw [evE] at h
  obtain ⟨⟨as, e1⟩, h1, h⟩ := bind_some h
  obtain ⟨bs, h2, h⟩ := bind_some h
  split at h
  · obtain ⟨ss, h3, h⟩ := bind_some h
    obtain ⟨⟨d', outs⟩, h4, h⟩ := bind_some h
    obtain ⟨e2, h5, h⟩ := bind_some h
    cases h
    exact ⟨as, e1, bs, ss, outs, h1, h2, by assumption, h3, h4, h5⟩
  · cases h
theorem ev_calln {f g es} (h : evE F (.calln f g es) env = some (d, env')) : ∃ ds xs ys, evL F es env = some (ds, env') ∧ F g (ds.map Sl.val) = some (.lst xs, []) ∧ F f [.par xs] = some (d, [ys]) := by
  rw [evE] at h
  obtain ⟨⟨ds, e1⟩, h1, h⟩ := bind_some h
  obtain ⟨⟨r, os⟩, h2, h⟩ := bind_some h
  simp only at h
  split at h
  · obtain ⟨⟨r', outs⟩, h3, h⟩ := bind_some h
    simp only at h
    split at h
    · cases h
      exact ⟨ds, _, _, h1, h2, h3⟩
    · cases h
  · cases h
theorem ev_lrng {a} (h : evE F (.lrng a) env = some (d, env')) : ∃ n : Int, evE F a env = some (.int n, env') ∧ -1000000 < n ∧ n < 1000000 ∧ d = .lst (ran n.toNat) := by
  rw [evE] at h
  obtain ⟨⟨x, e1⟩, h1, h⟩ := bind_some h
  simp only at h
  split at h
  · split at h
    · cases h
      rename_i hq
      have h2 := wi_lt hq (by decide)
      exact ⟨_, h1, by omega, by omega, rfl⟩
    · cases h
  · cases h
/-- what the callee is asked, and what is known behind it -/
theorem call_sp {f : PySem.Str} {n : Nat} {pm : List Nat} {as bs : List Ar} {ss : List Sl} {outs : List (List D)} {H0 H : Hp} {B0 M0 B M : AP'} {σ : L2.St} {vs ws : List V} {Q : VK} {E : XK} (s : Sim C H B M σ env) (ar : ArL C.K H B σ as vs) (hp : permA as pm = some bs) (hn : pm.length = n) (nd : (refs bs).Nodup)
    (ha : argS env bs = some ss) (hf : C.F f ss = some (d, outs)) (pb : putBack (refs bs) outs env = some env') (n0 : Nx H0 B0 M0 H B M) (hw : permA vs pm = some ws)
    (q : ∀ v H' B' M', Sim C H' B' M' σ env' → Rep C.K H' B' d v → Nx H0 B0 M0 H' B' M' → Q v H') : spF C.K C.F f n ws H Q E := by
  obtain ⟨ws', e, ar2⟩ := ar.perm hp
  rw [hw] at e; cases e
  obtain ⟨ps, h1, h2, h3⟩ := argS_rel s ha ar2
  refine ⟨B, ss, ps, d, outs, s.bl, h1, h2.nodup s nd h3, by rw [perm_len hw]; exact hn, hf, fun v H' r o keep al => ?_⟩
  obtain ⟨s', nx⟩ := s.out nd h3 h2 o keep al pb
  exact q v H' B M s' r (n0.trans nx)
theorem ev_rev {a} (h : evE F (.rev a) env = some (d, env')) : ∃ xs, evE F a env = some (.tup xs, env') ∧ d = .tup xs.reverse := by
  rw [evE] at h
  obtain ⟨⟨x, e1⟩, h1, h⟩ := bind_some h
  cases x <;> simp at h
  obtain ⟨rfl, rfl⟩ := h
  exact ⟨_, h1, rfl⟩
theorem RepL.rev {K : PySem.W.Frag} {H : Hp} {B : AP'} : ∀ {xs : List D} {vs : List V}, RepL K H B xs vs → RepL K H B xs.reverse vs.reverse
  | [], vs, h => by rw [show vs = [] from h]; rfl
  | x :: xs, vs, h => by
    obtain ⟨v, t, rfl, r, g⟩ := h
    rw [List.reverse_cons, List.reverse_cons]
    exact (RepL.rev g).app ⟨v, [], rfl, r, rfl⟩
theorem r_rev {a : Ex} {ea : Expr} {k p2 p3 p4 pos} (hK : X.K = C.K) (ha : PE X ea (tE C a)) : PE X (.Subscript ea (.Slice none none (some (.UnaryOp .USub (.Constant (.int 1) k p3) p4)) p2) pos) (tE C (.rev a)) := by
  have hc : PO X (some (.UnaryOp .USub (.Constant (.int 1) k p3) p4)) (fun _ H Q => Q (some (-1)) H) := by
    have h := po_some (X := X) (pe_un (un_neg (X := X)) (pe_int (X := X) (i := 1) (j := k) (pos := p3)) (pos := p4))
    refine ⟨fun pins s σ H Q I q => h.run pins s σ H Q I ?_⟩
    exact ⟨1, rfl, -1, rfl, q⟩
  refine (pe_rev ha hc).imp fun σ H Q h => ?_
  obtain ⟨B, M, env, d, env', s, e, q⟩ := h
  obtain ⟨xs, h1, rfl⟩ := ev_rev e
  refine ⟨B, M, env, _, env', s, h1, fun v H1 B1 M1 s1 r1 n1 => ?_⟩
  obtain ⟨b, vs, rfl, c1, g⟩ := r1
  exact ⟨b, vs, rfl, hK ▸ c1, fun p hp => q _ _ B1 M1 (s1.al (Al.new hp)) ⟨p, _, rfl, .inl (.inl upd_same), g.rev.al s1.bl (Al.new hp)⟩ (n1.trans (Al.new hp).nx)⟩
end Mn

namespace Mn
open PySem L2 RZ
variable {C : Ctx} {X : Cx} {F : FT} {env env' : Env} {d : D} {G : GS} {lv : Nat} {N : List PySem.Str} {sc : Scope}

theorem nmOk (x : XOk X C G lv N sc) {i : Nat} {y : PySem.Str} (h : nm N sc i y = true) : X.N[i]? = some y ∧ Vis X.env.scope y ∧ (y == ("__debug__" : PySem.Str)) = false ∧ (y == ("__classdict__" : PySem.Str)) = false := by
  unfold nm okN at h
  simp only [Bool.and_eq_true, decide_eq_true_eq, Bool.not_eq_true'] at h
  exact ⟨by rw [x.n]; exact h.1.1, x.vis _ h.1.2, h.2.1.1, h.2.1.2⟩
theorem okN_of {y : PySem.Str} (h : okN y = true) : (y == ("__debug__" : PySem.Str)) = false ∧ (y == ("__classdict__" : PySem.Str)) = false ∧ y ≠ "__name__" := by
  unfold okN at h
  simp only [Bool.and_eq_true, Bool.not_eq_true', beq_eq_false_iff_ne, ne_eq] at h
  exact ⟨by simpa using h.1.1, by simpa using h.1.2, h.2⟩
theorem XOk.hu (x : XOk X C G lv N sc) : X.A.units + 64 < cLine := x.room.units

/-! ### calls -/
theorem r_call {f : PySem.Str} {n : Nat} {kf : List (Nat × List PySem.Str × List Nat)} {a : Expr} {args : List Expr} {es : Ex} {p pos : Pos} (x : XOk X C G lv N sc) (hf : G.fn.lookup f = some (n, kf)) (hg : Gl X f) (hd : (f == ("__debug__" : PySem.Str)) = false) (hl : (a :: args).length = n) (h1 : nst a = true) (h2 : args.all nst = true)
    (ha : PA X (a :: args) (tA C es)) (hlen : ∀ env as env', evA C.F es env = some (as, env') → as.length = (a :: args).length) : PE X (.Call (.Name f p) (a :: args) [] pos) (tE C (.call f (List.range (a :: args).length) es)) := by
  obtain ⟨fa, fd, ps, m1, k1, F1, l1, b1, _⟩ := (x.fn f n kf hf).ex
  refine (pe_callG F1 x.qt x.room hg m1 k1 b1 ha hd (star_cons h1) (star_any h2)).imp fun σ H Q h => ?_
  obtain ⟨B, M, env, d, env', s, e, q⟩ := h
  obtain ⟨as, e1, bs, ss, outs, g1, g2, g3, g4, g5, g6⟩ := ev_call e
  refine ⟨B, M, env, as, e1, s, g1, fun vs H1 B1 M1 s1 r1 n1 => ?_⟩
  have hal := hlen _ _ _ g1
  have hvl : vs.length = (a :: args).length := by
    obtain ⟨ws, e5, _⟩ := r1.perm g2
    have := perm_range as
    rw [hal] at this
    rw [this] at g2; cases g2
    have : ∀ {as : List Ar} {vs : List V}, ArL C.K H1 B1 σ as vs → vs.length = as.length := by
      intro as; induction as with
      | nil => intro vs h; rw [show vs = [] from h]; rfl
      | cons y r ih => intro vs h; cases y <;> (obtain ⟨v, t, rfl, _, h⟩ := h; simp [ih h])
    rw [this r1, hal]
  have hw : permA vs (List.range (a :: args).length) = some vs := by rw [← hvl]; exact perm_range vs
  show spF X.K C.F f n vs H1 Q E0
  rw [x.K]
  exact call_sp s1 r1 g2 (by rw [List.length_range]; exact hl) g3 g4 g5 g6 n1 hw q
theorem argR_vals {K : PySem.W.Frag} {H : Hp} {B : AP'} : ∀ {ds : List D} {vs : List V}, RepL K H B ds vs → ArgR K H B (ds.map Sl.val) vs []
  | [], vs, h => ⟨h, rfl⟩
  | d :: r, vs, h => by
    obtain ⟨v, t, rfl, g, q⟩ := h
    exact ⟨v, t, rfl, g, argR_vals q⟩
theorem RepL.ran {K : PySem.W.Frag} {H : Hp} {B : AP'} (n : Nat) : RepL K H B (Mn.ran n) ((List.range n).map fun (k : Nat) => V.int k) := by
  unfold Mn.ran
  induction List.range n with
  | nil => rfl
  | cons x r ih => exact ⟨_, _, rfl, rfl, ih⟩
theorem r_lrng {a : Expr} {e : Ex} {p q pos pos2 : Pos} (x : XOk X C G lv N sc) (hg : Gl X "list") (hm : X.mg "list" = none) (hg2 : Gl X "range") (hm2 : X.mg "range" = none) (h1 : nst a = true) (ha : PE X a (tE C e)) :
    PE X (.Call (.Name "list" p) [.Call (.Name "range" q) [a] [] pos2] [] pos) (tE C (.lrng e)) := by
  refine (pe_callTy (cr_list_rng x.calm) hg hm (by decide +kernel) (pa_cons (pe_callTy cr_range1 hg2 hm2 (by decide +kernel) (pa_cons ha pa_nil (star_cons h1)) (by decide) (by decide) (star_cons h1) rfl) pa_nil rfl) (by decide) (by decide) rfl rfl).imp fun σ H Q h => ?_
  obtain ⟨B, M, env, d, env', s, e, q⟩ := h
  obtain ⟨n, g1, g2, g3, rfl⟩ := ev_lrng e
  refine ⟨B, M, env, _, _, s, g1, fun v H1 B1 M1 s1 r1 n1 => ⟨n, by rw [show v = V.int n from r1], fun r hr => ⟨r, n, rfl, upd_same, g2, g3, fun p hp => ?_⟩⟩⟩
  have a1 : Al H1 (upd (upd H1 r (.rng 0 n)) p (.lst ((List.range n.toNat).map fun (k : Nat) => V.int k))) := (Al.new hr).trans (Al.new hp)
  have hp1 : H1 p = none := upd_none hp
  refine q _ _ B1 M1 (s1.al a1) ⟨p, _, rfl, upd_same, fun z => ?_, RepL.ran _⟩ (n1.trans a1.nx)
  obtain ⟨_, z⟩ := s1.bl p z
  rw [hp1] at z; cases z
/-- f(g(..)), where g makes a list that f may change -/
theorem r_calln {f g : PySem.Str} {n : Nat} {kf : List (Nat × List PySem.Str × List Nat)} {a : Expr} {args : List Expr} {es : Ex} {p p2 pos pos2 : Pos} (x : XOk X C G lv N sc) (hf : G.fn.lookup f = some (n, kf)) (hn : n = 1) (hw : G.nw.lookup g = some (args.length + 1)) (hg : Gl X f) (hd : (f == ("__debug__" : PySem.Str)) = false) (hg2 : Gl X g) (hd2 : (g == ("__debug__" : PySem.Str)) = false) (h1 : nst a = true) (h2 : args.all nst = true)
    (ha : PA X (a :: args) (tL C es)) (hlen : ∀ env as env', evL C.F es env = some (as, env') → as.length = (a :: args).length) : PE X (.Call (.Name f p) [.Call (.Name g p2) (a :: args) [] pos2] [] pos) (tE C (.calln f g es)) := by
  obtain ⟨fa, fd, ps, m1, k1, F1, l1, b1, _⟩ := (x.fn f n kf hf).ex
  obtain ⟨fa2, fd2, ps2, m2, k2, F2, l2, b2⟩ := (x.nw g _ hw).ex
  refine (pe_callG F1 x.qt x.room hg m1 k1 b1 (pa_cons (pe_callG F2 x.qt x.room hg2 m2 k2 b2 ha hd2 (star_cons h1) (star_any h2)) pa_nil rfl) hd rfl rfl).imp fun σ H Q h => ?_
  obtain ⟨B, M, env, d, env', s, e, q⟩ := h
  obtain ⟨ds, xs, ys, g1, g2, g3⟩ := ev_calln e
  refine ⟨B, M, env, ds, env', s, g1, fun vs H1 B1 M1 s1 r1 n1 => ?_⟩
  show spN X.K C.F g _ vs H1 _ E0
  rw [x.K]
  refine ⟨B1, ds, xs, s1.bl, r1, by rw [r1.len, hlen _ _ _ g1, List.length_cons], g2, fun pp H2 ws hp hp2 rl keep al => ?_⟩
  show spF C.K C.F f n [V.ref pp] H2 Q E0
  have bl2 : BL H2 (ins pp B1) := fun b z => z.elim (fun e => ⟨.l ws, e ▸ hp2⟩) fun z => let ⟨us, e⟩ := s1.bl b z; ⟨us, keep b _ e⟩
  refine ⟨ins pp B1, [.par xs], [pp], d, [ys], bl2, ⟨pp, [], [], ws, rfl, rfl, hp2, rl, .inl rfl, rfl, rfl⟩, List.nodup_cons.2 ⟨by simp, List.nodup_nil⟩, by rw [hn]; rfl, g3, fun v H3 rv ro keep3 al3 => ?_⟩
  have a3 : Al H1 H3 := fun b o e => keep3 b o (keep b o e) (by
    intro z
    rw [List.mem_singleton] at z
    subst z
    rw [hp] at e; cases e)
  have bl3 : BL H3 (ins pp B1) := fun b z => by
    rcases z with rfl | z
    · obtain ⟨ws', e, _⟩ := ro.get (k := 0) rfl rfl
      exact ⟨.l ws', e⟩
    · obtain ⟨us, e⟩ := s1.bl b z
      exact ⟨us, a3 b _ e⟩
  exact q v H3 B1 M1 (s1.al a3) (rv.less bl3 fun a z => .inr z) (n1.trans a3.nx)
/-- the keywords of a call -/
theorem _root_.L2.PK.imp {X : Cx} {e : List Keyword} {t t' : TA} (h : PK X e t) (i : ∀ σ H Q, t' σ H Q → t σ H Q) : PK X e t' := ⟨fun p pins s σ H Q I q => h.run p pins s σ H Q I (i σ H Q q)⟩
theorem kw_all {env : PySem.Env} {pos : Pos} : ∀ {kws : List Keyword} {ks : List PySem.Str}, kwN kws = some ks → (backToKw pos (keywordEach kws env)).all (·.1.isSome) = true ∧ (backToKw pos (keywordEach kws env)).filterMap (·.1) = ks ∧ (backToKw pos (keywordEach kws env)).any (·.1.isNone) = false ∧ ks.length = kws.length
  | [], ks, h => by cases h; exact ⟨rfl, rfl, rfl, rfl⟩
  | ⟨none, _, _⟩ :: _, ks, h => by cases h
  | ⟨some n, v, p⟩ :: r, ks, h => by
    simp only [kwN, Option.map_eq_some_iff] at h
    obtain ⟨ms, h, rfl⟩ := h
    obtain ⟨h1, h2, h3, h4⟩ := kw_all (env := env) (pos := pos) h
    refine ⟨?_, ?_, ?_, ?_⟩
    · show (true && (backToKw pos (keywordEach r env)).all (·.1.isSome)) = true
      rw [h1]; rfl
    · show n :: (backToKw pos (keywordEach r env)).filterMap (·.1) = n :: ms
      rw [h2]
    · show (false || (backToKw pos (keywordEach r env)).any (·.1.isNone)) = false
      rw [h3]; rfl
    · simp [h4]
def takeX : Nat → Ex → Ex
  | 0, _ => .nil
  | n + 1, .cons e es => .cons e (takeX n es)
  | _ + 1, e => e
def dropX : Nat → Ex → Ex
  | 0, e => e
  | n + 1, .cons e es => dropX n es
  | _ + 1, e => e
theorem evA_split {as : List Ar} : ∀ {n : Nat} {es : Ex} {env : Env} {as : List Ar} {env' : Env}, evA F es env = some (as, env') → n ≤ as.length → ∃ a1 e1 a2, evA F (takeX n es) env = some (a1, e1) ∧ evA F (dropX n es) e1 = some (a2, env') ∧ as = a1 ++ a2
  | 0, es, env, as, env', h, _ => ⟨[], env, as, by unfold takeX; rw [evA], h, rfl⟩
  | n + 1, .cons e es, env, as, env', h, hl => by
    obtain ⟨y, e1, xs, h1, h2, rfl⟩ := ev_acons h
    obtain ⟨a1, e2, a2, g1, g2, rfl⟩ := evA_split (as := xs) (n := n) h2 (by simpa using hl)
    refine ⟨y :: a1, e2, a2, ?_, g2, rfl⟩
    unfold takeX
    rw [evA, h1]
    simp only [Option.bind_eq_bind, Option.bind_some, g1]
  | n + 1, .nil, env, as, env', h, hl => by rw [evA] at h; cases h; simp at hl
  | n + 1, .var _, env, as, env', h, hl => by rw [evA] at h <;> first | cases h | (intros; contradiction)
  | n + 1, .con _, env, as, env', h, hl => by rw [evA] at h <;> first | cases h | (intros; contradiction)
  | n + 1, .glo _, env, as, env', h, hl => by rw [evA] at h <;> first | cases h | (intros; contradiction)
  | n + 1, .ixv _ _, env, as, env', h, hl => by rw [evA] at h <;> first | cases h | (intros; contradiction)
  | n + 1, .lenv _, env, as, env', h, hl => by rw [evA] at h <;> first | cases h | (intros; contradiction)
  | n + 1, .bin _ _ _, env, as, env', h, hl => by rw [evA] at h <;> first | cases h | (intros; contradiction)
  | n + 1, .neg _, env, as, env', h, hl => by rw [evA] at h <;> first | cases h | (intros; contradiction)
  | n + 1, .cmp _ _ _, env, as, env', h, hl => by rw [evA] at h <;> first | cases h | (intros; contradiction)
  | n + 1, .vand _ _, env, as, env', h, hl => by rw [evA] at h <;> first | cases h | (intros; contradiction)
  | n + 1, .vor _ _, env, as, env', h, hl => by rw [evA] at h <;> first | cases h | (intros; contradiction)
  | n + 1, .vnot _, env, as, env', h, hl => by rw [evA] at h <;> first | cases h | (intros; contradiction)
  | n + 1, .tand _ _, env, as, env', h, hl => by rw [evA] at h <;> first | cases h | (intros; contradiction)
  | n + 1, .tor _ _, env, as, env', h, hl => by rw [evA] at h <;> first | cases h | (intros; contradiction)
  | n + 1, .tnot _, env, as, env', h, hl => by rw [evA] at h <;> first | cases h | (intros; contradiction)
  | n + 1, .tvar _, env, as, env', h, hl => by rw [evA] at h <;> first | cases h | (intros; contradiction)
  | n + 1, .tval _, env, as, env', h, hl => by rw [evA] at h <;> first | cases h | (intros; contradiction)
  | n + 1, .tyes, env, as, env', h, hl => by rw [evA] at h <;> first | cases h | (intros; contradiction)
  | n + 1, .ite _ _ _, env, as, env', h, hl => by rw [evA] at h <;> first | cases h | (intros; contradiction)
  | n + 1, .tup _, env, as, env', h, hl => by rw [evA] at h <;> first | cases h | (intros; contradiction)
  | n + 1, .lst _, env, as, env', h, hl => by rw [evA] at h <;> first | cases h | (intros; contradiction)
  | n + 1, .ref _, env, as, env', h, hl => by rw [evA] at h <;> first | cases h | (intros; contradiction)
  | n + 1, .ix _ _, env, as, env', h, hl => by rw [evA] at h <;> first | cases h | (intros; contradiction)
  | n + 1, .slc _ _ _, env, as, env', h, hl => by rw [evA] at h <;> first | cases h | (intros; contradiction)
  | n + 1, .rev _, env, as, env', h, hl => by rw [evA] at h <;> first | cases h | (intros; contradiction)
  | n + 1, .call _ _ _, env, as, env', h, hl => by rw [evA] at h <;> first | cases h | (intros; contradiction)
  | n + 1, .blt _ _, env, as, env', h, hl => by rw [evA] at h <;> first | cases h | (intros; contradiction)
  | n + 1, .comp _ _ _ _ _ _, env, as, env', h, hl => by rw [evA] at h <;> first | cases h | (intros; contradiction)
  | n + 1, .att _ _ _, env, as, env', h, hl => by rw [evA] at h <;> first | cases h | (intros; contradiction)
  | n + 1, .sg _, env, as, env', h, hl => by rw [evA] at h <;> first | cases h | (intros; contradiction)
  | n + 1, .mk _ _, env, as, env', h, hl => by rw [evA] at h <;> first | cases h | (intros; contradiction)
  | n + 1, .mth _ _ _, env, as, env', h, hl => by rw [evA] at h <;> first | cases h | (intros; contradiction)
  | n + 1, .fst _, env, as, env', h, hl => by rw [evA] at h <;> first | cases h | (intros; contradiction)
  | n + 1, .opq, env, as, env', h, hl => by rw [evA] at h <;> first | cases h | (intros; contradiction)
theorem r_knil : PK X [] (tA C .nil) := pk_nil.imp fun σ H Q h => by
  obtain ⟨B, M, env, d, env', s, e, q⟩ := h
  rw [evA] at e; cases e
  exact q [] H B M s rfl (Nx.refl _ _ _)
theorem r_kcons {e es : Ex} {nm : Option PySem.Str} {x : Expr} {kp : Pos} {xs : List Keyword} (he : PE X x (tE C e)) (hs : PK X xs (tA C es)) : PK X (⟨nm, x, kp⟩ :: xs) (tA C (.cons (.tval e) es)) :=
  (pk_cons he hs).imp fun σ H Q h => by
    obtain ⟨B, M, env, ds, env', s, e, q⟩ := h
    obtain ⟨x, e1, xs, h1, h2, rfl⟩ := ev_acons e
    rw [evAr] at h1
    obtain ⟨⟨y, e3⟩, h1, h⟩ := bind_some h1
    cases h
    refine ⟨B, M, env, y, e1, s, h1, fun v H1 B1 M1 s1 r1 n1 => ⟨B1, M1, e1, xs, env', s1, h2, fun vs H2 B2 M2 s2 r2 n2 => ?_⟩⟩
    exact q _ H2 B2 M2 s2 ⟨v, vs, rfl, Rep.nx s1.bl s1.mb n2 _ _ r1, r2⟩ (n1.trans n2)
theorem r_kcons_ref {i : Nat} {y : PySem.Str} {p kp : Pos} {nm : Option PySem.Str} {es : Ex} {xs : List Keyword} (hN : X.N[i]? = some y) (hv : Vis X.env.scope y) (hd : (y == ("__debug__" : PySem.Str)) = false) (hcd : (y == ("__classdict__" : PySem.Str)) = false) (hs : PK X xs (tA C es)) :
    PK X (⟨nm, .Name y p, kp⟩ :: xs) (tA C (.cons (.ref i) es)) :=
  (pk_cons (pe_var hN hv hd hcd) hs).imp fun σ H Q h => by
    obtain ⟨B, M, env, ds, env', s, e, q⟩ := h
    obtain ⟨x, e1, xs, h1, h2, rfl⟩ := ev_acons e
    rw [evAr] at h1
    obtain ⟨z, h0, h1⟩ := bind_some h1
    cases h1
    obtain ⟨a, ws, e5, _⟩ := s.mut h0
    exact ⟨_, e5, B, M, env, xs, env', s, h2, fun vs H2 B2 M2 s2 r2 n2 => q _ H2 B2 M2 s2 ⟨_, vs, rfl, e5, r2⟩ n2⟩
theorem gP_of {α : Type} {n m : Nat} {pm : List Nat} {us ws : List α} {r : List α} (h1 : us.length = n) (h2 : ws.length = m) (h : permA (us ++ ws) pm = some r) : gP n m pm us ws = r := by
  unfold gP; rw [if_pos ⟨h1, h2⟩, h]; rfl
theorem ArL.len {K : PySem.W.Frag} {H : Hp} {B : AP'} {σ : L2.St} : ∀ {as : List Ar} {vs : List V}, ArL K H B σ as vs → vs.length = as.length
  | [], vs, h => by rw [show vs = [] from h]; rfl
  | .v _ :: _, _, h => by obtain ⟨v, t, rfl, _, h⟩ := h; simp [ArL.len h]
  | .r _ :: _, _, h => by obtain ⟨v, t, rfl, _, h⟩ := h; simp [ArL.len h]
theorem ArL.app {K : PySem.W.Frag} {H : Hp} {B : AP'} {σ : L2.St} : ∀ {as bs : List Ar} {vs ws : List V}, ArL K H B σ as vs → ArL K H B σ bs ws → ArL K H B σ (as ++ bs) (vs ++ ws)
  | [], _, vs, _, h, g => by rw [show vs = [] from h]; exact g
  | .v _ :: _, _, _, _, h, g => by obtain ⟨v, t, rfl, q, h⟩ := h; exact ⟨v, _, rfl, q, ArL.app h g⟩
  | .r _ :: _, _, _, _, h, g => by obtain ⟨v, t, rfl, q, h⟩ := h; exact ⟨v, _, rfl, q, ArL.app h g⟩
theorem ArL.nx {K : PySem.W.Frag} {H B M H' B' M'} {σ : L2.St} (bl : BL H B) (mb : ∀ a, M a → B a) (n : Nx H B M H' B' M') : ∀ {as : List Ar} {vs : List V}, ArL K H B σ as vs → ArL K H' B' σ as vs
  | [], _, h => h
  | .v _ :: _, _, h => by obtain ⟨v, t, rfl, q, h⟩ := h; exact ⟨v, _, rfl, Rep.nx bl mb n _ _ q, ArL.nx bl mb n h⟩
  | .r _ :: _, _, h => by obtain ⟨v, t, rfl, q, h⟩ := h; exact ⟨v, _, rfl, q, ArL.nx bl mb n h⟩
theorem r_callK {f : PySem.Str} {n : Nat} {kf : List (Nat × List PySem.Str × List Nat)} {pm : List Nat} {args : List Expr} {kws : List Keyword} {ks : List PySem.Str} {es : Ex} {p pos : Pos} (x : XOk X C G lv N sc) (hf : G.fn.lookup f = some (n, kf)) (hg : Gl X f) (hd : (f == ("__debug__" : PySem.Str)) = false) (hl : pm.length = n) (hin : (args.length, ks, pm) ∈ kf) (hk : kwN kws = some ks) (h2 : args.all nst = true)
    (ha : PA X args (tA C (takeX args.length es))) (hkw : PK X kws (tA C (dropX args.length es))) (hlen : ∀ env as env', evA C.F es env = some (as, env') → as.length = args.length + kws.length)
    (hlen1 : ∀ env as env', evA C.F (takeX args.length es) env = some (as, env') → as.length = args.length) : PE X (.Call (.Name f p) args kws pos) (tE C (.call f pm es)) := by
  obtain ⟨fa, fd, ps, m1, k1, F1, l1, b1, kb⟩ := (x.fn f n kf hf).ex
  obtain ⟨w1, w2, w3, w4⟩ := kw_all (env := X.env) (pos := pos) hk
  have KB := kb _ hin
  have main : ∀ {σ H Q}, tE C (.call f pm es) σ H Q → tA C (takeX args.length es) σ H fun vs H1 => tA C (dropX args.length es) σ H1 fun zs H2 => spF X.K C.F f n (gP args.length ks.length pm vs zs) H2 Q E0 := fun {σ H Q} h => by
    obtain ⟨B, M, env, d, env', s, e, q⟩ := h
    obtain ⟨as, e1, bs, ss, outs, g1, g2, g3, g4, g5, g6⟩ := ev_call e
    have hal := hlen _ _ _ g1
    obtain ⟨a1, e2, a2, t1, t2, rfl⟩ := evA_split (as := as) (n := args.length) g1 (by omega)
    have hl1 := hlen1 _ _ _ t1
    refine ⟨B, M, env, a1, e2, s, t1, fun vs H1 B1 M1 s1 r1 n1 => ⟨B1, M1, e2, a2, e1, s1, t2, fun zs H2 B2 M2 s2 r2 n2 => ?_⟩⟩
    have r3 := (ArL.nx s1.bl s1.mb n2 r1).app r2
    obtain ⟨ws, e5, _⟩ := r3.perm g2
    show spF X.K C.F f n (gP args.length ks.length pm vs zs) H2 Q E0
    rw [gP_of (by rw [r1.len, hl1]) (by rw [r2.len, w4]; simp at hal; omega) e5, x.K]
    exact call_sp s2 r3 g2 hl g3 g4 g5 g6 (n1.trans n2) e5 q
  cases args with
  | nil =>
    refine (pe_callK0G F1 x.qt x.room hg m1 k1 KB hkw w1 w2 w3 hd).imp fun σ H Q h => ?_
    obtain ⟨B, M, env, as, e1, s, t1, q⟩ := main h
    unfold takeX at t1; simp only [List.length_nil] at t1
    rw [evA] at t1; cases t1
    exact q [] H B M s rfl (Nx.refl _ _ _)
  | cons a args =>
    simp only [List.all_cons, Bool.and_eq_true] at h2
    exact (pe_callKG F1 x.qt x.room hg m1 k1 KB ha hkw w1 w2 hd (star_cons h2.1) (by
      rw [w3, Bool.or_false, star_cons h2.1]
      have := star_any (env := X.env) (pos := pos) h2.2
      simpa [backTo] using this)).imp fun σ H Q h => main h
end Mn

namespace Mn
open PySem L2 RZ
variable {C : Ctx} {X : Cx} {F : FT} {env env' : Env} {d : D} {G : GS} {lv : Nat} {N : List PySem.Str} {sc : Scope}

/-! ### targets -/
theorem _root_.L2.PG.imp {X : Cx} {e : Expr} {t t' : TG} (h : PG X e t) (i : ∀ v σ H Q, t' v σ H Q → t v σ H Q) : PG X e t' := ⟨fun pins s σ H v u Q I r q => h.run pins s σ H v u Q I r (i v σ H Q q)⟩
theorem _root_.L2.PGs.imp {X : Cx} {e : List Expr} {t t' : TGs} (h : PGs X e t) (i : ∀ v σ H Q, t' v σ H Q → t v σ H Q) : PGs X e t' := ⟨fun pins s σ H v u Q I r q => h.run pins s σ H v u Q I r (i v σ H Q q)⟩
def tGs (C : Ctx) (is : List Nat) : TGs := fun vs σ H Q => ∃ B M env env' ds, Sim C H B M σ env ∧ RepL C.K H B ds vs ∧ unpS is ds env = some env' ∧ ∀ σ', Sim C H B M σ' env' → (∀ vs, (∀ i ∈ is, i ∈ vs) → L2.wipe σ' vs = L2.wipe σ vs) → Q σ' H
theorem r_name (x : XOk X C G lv N sc) {i : Nat} {y : PySem.Str} {p : Pos} (h1 : N[i]? = some y) (h2 : loc sc y = true) : PG X (.Name y p) (gName i) := by
  obtain ⟨h3, h4⟩ := x.loc y h2
  exact pg_name (x.n ▸ x.nd) (by rw [x.n]; exact h1) h3 h4
theorem r_tgs (x : XOk X C G lv N sc) : ∀ {is : List Nat} {es : List Expr}, ckTgN N sc is es = true → PGs X es (tGs C is) ∧ (assignEach es X.env).length = is.length ∧ (assignEach es X.env).findIdx? (·.1) = none
  | [], [], _ => ⟨pgs_nil.imp fun vs σ H Q h => by
      obtain ⟨B, M, env, env', ds, s, r, e, q⟩ := h
      unfold unpS at e
      cases ds with
      | cons _ _ => cases e
      | nil => cases e; exact ⟨r, q σ s fun _ _ => rfl⟩, rfl, rfl⟩
  | i :: is, .Name y p :: es, h => by
    simp only [ckTgN, Bool.and_eq_true, decide_eq_true_eq] at h
    obtain ⟨g1, g2, g3⟩ := r_tgs x h.2
    refine ⟨(pgs_cons (r_name x h.1.1 h.1.2) g1).imp fun vs σ H Q hq => ?_, ?_, ?_⟩
    · obtain ⟨B, M, env, env', ds, s, r, e, q⟩ := hq
      cases ds with
      | nil => unfold unpS at e; cases e
      | cons d ds =>
        unfold unpS at e
        obtain ⟨e1, e2, e⟩ := bind_some e
        obtain ⟨v, t, rfl, rv, rt⟩ := r
        refine ⟨v, t, rfl, B, M, e1, env', ds, s.putVal e2 rv, rt, e, fun σ' s' w => q σ' s' fun ws hw => ?_⟩
        rw [w ws fun j hj => hw j (List.mem_cons_of_mem _ hj), wipe_set (hw i List.mem_cons_self)]
    · show (assignEach es X.env).length + 1 = is.length + 1
      rw [g2]
    · show List.findIdx? (·.1) ((false, _) :: assignEach es X.env) = none
      rw [List.findIdx?_cons]
      simp [g3]
  | [], _ :: _, h => by simp [ckTgN] at h
  | _ :: _, [], h => by simp [ckTgN] at h
  | i :: is, e :: es, h => by
    cases e <;> first | (simp [ckTgN] at h; done) | skip
    rename_i y p
    simp only [ckTgN, Bool.and_eq_true, decide_eq_true_eq] at h
    obtain ⟨g1, g2, g3⟩ := r_tgs x h.2
    refine ⟨(pgs_cons (r_name x h.1.1 h.1.2) g1).imp fun vs σ H Q hq => ?_, ?_, ?_⟩
    · obtain ⟨B, M, env, env', ds, s, r, e, q⟩ := hq
      cases ds with
      | nil => unfold unpS at e; cases e
      | cons d ds =>
        unfold unpS at e
        obtain ⟨e1, e2, e⟩ := bind_some e
        obtain ⟨v, t, rfl, rv, rt⟩ := r
        refine ⟨v, t, rfl, B, M, e1, env', ds, s.putVal e2 rv, rt, e, fun σ' s' w => q σ' s' fun ws hw => ?_⟩
        rw [w ws fun j hj => hw j (List.mem_cons_of_mem _ hj), wipe_set (hw i List.mem_cons_self)]
    · show (assignEach es X.env).length + 1 = is.length + 1
      rw [g2]
    · show List.findIdx? (·.1) ((false, _) :: assignEach es X.env) = none
      rw [List.findIdx?_cons]
      simp [g3]
theorem unp_len : ∀ {is : List Nat} {ds : List D} {env env' : Env}, unpS is ds env = some env' → ds.length = is.length ∧ env'.length = env.length
  | [], [], _, _, h => by cases h; exact ⟨rfl, rfl⟩
  | [], _ :: _, _, _, h => by cases h
  | _ :: _, [], _, _, h => by cases h
  | i :: is, d :: ds, env, env', h => by
    unfold unpS at h
    obtain ⟨e1, e2, e⟩ := bind_some h
    obtain ⟨h1, h2⟩ := unp_len e
    exact ⟨by simp [h1], by rw [h2, putS_len e2]⟩
theorem bind_len {tg : Tg} (h : bindT tg d env = some env') : env'.length = env.length := by
  unfold bindT at h
  split at h
  · exact putS_len h
  · exact (unp_len h).2
  · cases h
theorem r_tg (x : XOk X C G lv N sc) {tg : Tg} {e : Expr} (h : ckTg N sc tg e = true) : PG X e (tG C tg) := by
  unfold ckTg at h
  split at h
  · simp only [Bool.and_eq_true, decide_eq_true_eq] at h
    refine (r_name x h.1 h.2).imp fun v σ H Q hq => ?_
    obtain ⟨B, M, env, env', d, s, r, e, q⟩ := hq
    exact q _ (s.putVal e r) fun ws hw => wipe_set (hw _ (by simp [tgs]))
  · obtain ⟨g1, g2, g3⟩ := r_tgs x h
    refine (pg_tup x.calm g1 g2 g3).imp fun v σ H Q hq => ?_
    obtain ⟨B, M, env, env', d, s, r, e, q⟩ := hq
    cases d <;> first | (cases e; done) | skip
    obtain ⟨a, vs, rfl, h1, h2⟩ := r
    refine ⟨a, vs, rfl, x.K ▸ h1, by rw [h2.len]; exact (unp_len e).1, B, M, env, env', _, s, h2, e, fun σ' s' w => q σ' s' w⟩
  · cases h

/-! ### what is walked -/
def iSeq (K : PySem.W.Frag) (tl : TE) : TI := fun σ H R => tl σ H fun x H1 => ∃ a, x = .ref a ∧ (((∃ xs, SqL K H1 a xs) ∧ R (Itl K a) H1) ∨ ((∃ xs, SqT K H1 a xs) ∧ R (Itt K a) H1))
theorem pi_seq {tg l : Expr} {tl : TE} (hl : PE X l tl) : PI X tg l (iSeq X.K tl) := by
  refine ⟨fun pins s σ H R I h => ?_⟩
  refine thn (hl.run pins s σ H _ I h) fun v s1 ⟨x, H1, I1, r1, q1⟩ => ?_
  obtain ⟨a, e, q⟩ := q1
  subst e
  cases r1
  rcases q with ⟨⟨xs, hq⟩, q⟩ | ⟨⟨xs, hq⟩, q⟩
  · obtain ⟨its, rv, p, hz⟩ := I1.list hq
    refine wpAny_pyIter_list p.isList ?_
    refine ⟨s1.heap.objs.size, [s1.heap.objs.size], _, _, H1, rfl, I1.kept (t' := s1.toks) fun b o e => Heap.get?_push_of_some _ e, turn_list a _, ⟨_, Heap.get?_push_size _ rfl, rfl, rfl⟩, fun b hb => ?_, q⟩
    have e : b = s1.heap.objs.size := by simpa using hb
    subst e
    exact I1.fpOk (Nat.le_refl _) (I1.hok.fresh (Nat.le_refl _))
  · obtain ⟨its, rv, p, hz⟩ := I1.tuple hq
    refine wpAny_pyIter_tuple (show s1.heap.IsTuple a its.toArray from p) ?_
    refine ⟨s1.heap.objs.size, [s1.heap.objs.size], _, _, H1, rfl, I1.kept (t' := s1.toks) fun b o e => Heap.get?_push_of_some _ e, turn_tuple a _, ⟨_, Heap.get?_push_size _ rfl, rfl, rfl⟩, fun b hb => ?_, q⟩
    have e : b = s1.heap.objs.size := by simpa using hb
    subst e
    exact I1.fpOk (Nat.le_refl _) (I1.hok.fresh (Nat.le_refl _))
theorem _root_.L2.PI.imp {X : Cx} {tg e : Expr} {t t' : TI} (h : PI X tg e t) (i : ∀ σ H R, t' σ H R → t σ H R) : PI X tg e t' := ⟨fun pins s σ H R I q => h.run pins s σ H R I (i σ H R q)⟩
theorem ev_one {e} {ds : List D} (h : evL F (.cons e .nil) env = some (ds, env')) : ∃ x, evE F e env = some (x, env') ∧ ds = [x] := by
  obtain ⟨x, e1, xs, h1, h2, rfl⟩ := ev_cons h
  rw [evL] at h2; cases h2
  exact ⟨x, h1, rfl⟩
theorem r_seq {tg l : Expr} {e : Ex} (hK : X.K = C.K) (he : PE X l (tE C e)) : PI X tg l (tI C .seq (.cons e .nil)) := (pi_seq he).imp fun σ H R h => by
  obtain ⟨B, M, env, xs, its, env', s, ev, w, q⟩ := h
  obtain ⟨x, h1, rfl⟩ := ev_one ev
  refine ⟨B, M, env, x, env', s, h1, fun v H1 B1 M1 s1 r1 n1 => ?_⟩
  cases x <;> simp only [walk, reduceCtorEq, Option.some.injEq] at w
  · subst w
    obtain ⟨a, vs, rfl, c1, c2⟩ := r1
    exact ⟨a, rfl, .inr ⟨⟨vs, hK ▸ c1⟩, (by rw [hK]; exact q _ _ H1 B1 M1 s1 wlk_tup ⟨vs, c1, c2⟩ n1)⟩⟩
  · subst w
    obtain ⟨a, vs, rfl, c1, c2, c3⟩ := r1
    exact ⟨a, rfl, .inl ⟨⟨vs, .inl (.inl c1)⟩, (by rw [hK]; exact q _ _ H1 B1 M1 s1 wlk_list ⟨vs, c1, c2, c3⟩ n1)⟩⟩
theorem r_zip {x y : Expr} {p pos tpos : Pos} {elts : List Expr} {kk : Nat} {e e' : Ex} (hK : X.K = C.K) (hg : Gl X "zip") (hm : X.mg "zip" = none) (n1 : nst x = true) (n2 : nst y = true) (h1 : PE X x (tE C e)) (h2 : PE X y (tE C e')) :
    PI X (.Tuple elts kk tpos) (.Call (.Name "zip" p) [x, y] [] pos) (tI C .zip (.cons e (.cons e' .nil))) :=
  (pi_zipA hg hm (r_cons n1 h1 (r_cons n2 h2 r_nil)) (star_cons n1) (star_any (es := [y]) (by simp [n2]))).imp fun σ H R h => by
    obtain ⟨B, M, env, xs, its, env', s, ev, w, q⟩ := h
    obtain ⟨x, e1, ys, g1, g2, rfl⟩ := ev_cons ev
    obtain ⟨y, g3, rfl⟩ := ev_one g2
    refine ⟨B, M, env, [x, y], env', s, ev, fun vs H1 B1 M1 s1 r1 n1 => ?_⟩
    obtain ⟨v1, v2, rfl, r2, r3⟩ := r1.two
    cases x <;> cases y <;> simp only [walk, reduceCtorEq, Option.some.injEq] at w
    · subst w
      obtain ⟨a, vs, rfl, c1, c2⟩ := r2
      obtain ⟨b, ws, rfl, c3, c4⟩ := r3
      exact ⟨a, b, vs, ws, rfl, .inr ⟨hK ▸ c1, hK ▸ c3, (by rw [hK]; exact q _ _ H1 B1 M1 s1 wlk_zipT ⟨⟨vs, c1, c2⟩, ⟨ws, c3, c4⟩⟩ n1)⟩⟩
    · subst w
      obtain ⟨a, vs, rfl, c1, c2, c5⟩ := r2
      obtain ⟨b, ws, rfl, c3, c4, c6⟩ := r3
      exact ⟨a, b, vs, ws, rfl, .inl ⟨.inl (.inl c1), .inl (.inl c3), (by rw [hK]; exact q _ _ H1 B1 M1 s1 wlk_zip ⟨⟨vs, c1, c2, c5⟩, ⟨ws, c3, c4, c6⟩⟩ n1)⟩⟩
theorem r_enum {x : Expr} {p pos tpos : Pos} {elts : List Expr} {kk : Nat} {e : Ex} (hK : X.K = C.K) (hg : Gl X "enumerate") (hm : X.mg "enumerate" = none) (n1 : nst x = true) (h1 : PE X x (tE C e)) :
    PI X (.Tuple elts kk tpos) (.Call (.Name "enumerate" p) [x] [] pos) (tI C .enum (.cons e .nil)) :=
  (pi_enum hg hm (r_cons n1 h1 r_nil) (star_cons n1)).imp fun σ H R h => by
    obtain ⟨B, M, env, xs, its, env', s, ev, w, q⟩ := h
    obtain ⟨x, g1, rfl⟩ := ev_one ev
    refine ⟨B, M, env, [x], env', s, ev, fun vs H1 B1 M1 s1 r1 n1 => ?_⟩
    obtain ⟨v1, rfl, r2⟩ := r1.one
    cases x <;> simp only [walk, reduceCtorEq, Option.some.injEq] at w
    subst w
    obtain ⟨a, vs, rfl, c1, c2, c5⟩ := r2
    exact ⟨a, vs, rfl, .inl (.inl c1), (by rw [hK]; exact q _ _ H1 B1 M1 s1 wlk_enum ⟨vs, c1, c2, c5⟩ n1)⟩
theorem r_rng {x tg : Expr} {p pos : Pos} {e : Ex} (hg : Gl X "range") (hm : X.mg "range" = none) (n1 : nst x = true) (h1 : PE X x (tE C e)) :
    PI X tg (.Call (.Name "range" p) [x] [] pos) (tI C .rng (.cons e .nil)) :=
  (pi_range1 hg hm (r_cons n1 h1 r_nil) (star_cons n1)).imp fun σ H R h => by
    obtain ⟨B, M, env, xs, its, env', s, ev, w, q⟩ := h
    obtain ⟨x, g1, rfl⟩ := ev_one ev
    refine ⟨B, M, env, [x], env', s, ev, fun vs H1 B1 M1 s1 r1 n1 => ?_⟩
    obtain ⟨v1, rfl, r2⟩ := r1.one
    cases x <;> simp only [walk, reduceCtorEq, Option.ite_none_right_eq_some, Option.some.injEq] at w
    obtain ⟨w1, rfl⟩ := w
    cases r2
    have w2 := wi_lt w1 (by decide)
    exact ⟨_, rfl, by omega, by omega, q _ _ H1 B1 M1 s1 wlk_rng trivial n1⟩

/-! ### comprehensions -/
abbrev Ctx.at (C : Ctx) (B : AP') : Ctx := { C with B0 := B }
theorem XOk.at {B : AP'} (x : XOk X C G lv N sc) : XOk X (C.at B) G lv N sc :=
  ⟨x.n, x.nd, x.calm, x.K, x.kind, x.vis, x.loc, x.isL, x.cf, x.gl, x.room, x.qt, x.bl, x.mf, fun f n kf h => ⟨(x.fn f n kf h).ex⟩, fun f n h => ⟨(x.nw f n h).ex⟩, x.co, x.ca, fun g n c m h => ⟨(x.mt g n c m h).ex⟩, fun c n h => ⟨(x.mkr c n h).ex⟩, x.sf⟩
theorem Sim.insB {H : Hp} {B M : AP'} {σ : L2.St} {p : Addr} (s : Sim C H (ins p B) M σ env) (nm : ¬ M p) : Sim (C.at (ins p C.B0)) H (ins p B) M σ env :=
  ⟨s.len, s.bl, s.mb, fun a h => h.elim .inl (s.lo a), s.val, fun i xs h => let ⟨a, vs, e, q, r, m, n⟩ := s.own i xs h; ⟨a, vs, e, q, r, m, fun z => z.elim (fun e => nm (e ▸ m)) n⟩, s.par, s.inj, s.kp, s.ex, s.sl⟩
theorem Sim.downB {H : Hp} {B M B1 : AP'} {σ : L2.St} (s : Sim (C.at B1) H B M σ env) (lo : ∀ a, C.B0 a → B1 a) : Sim C H B M σ env :=
  ⟨s.len, s.bl, s.mb, fun a h => s.lo a (lo a h), s.val, fun i xs h => let ⟨a, vs, e, q, r, m, n⟩ := s.own i xs h; ⟨a, vs, e, q, r, m, fun z => n (lo a z)⟩, s.par, s.inj, s.kp, s.ex, s.sl⟩
theorem Sim.moreM {H : Hp} {B M M2 : AP'} {σ : L2.St} (s : Sim C H B M σ env) (h1 : ∀ a, M a → M2 a) (h2 : ∀ a, M2 a → B a) (h3 : ∀ a o, C.K0 a = some o → ¬ M2 a) : Sim C H B M2 σ env :=
  ⟨s.len, s.bl, h2, s.lo, s.val, fun i xs h => let ⟨a, vs, e, q, r, m, n⟩ := s.own i xs h; ⟨a, vs, e, q, r, h1 a m, n⟩, fun i xs h => let ⟨a, vs, p, e, q, r, m⟩ := s.par i xs h; ⟨a, vs, p, e, q, r, h1 a m⟩, s.inj, fun a o h => ⟨(s.kp a o h).1, h3 a o h⟩, s.ex, s.sl⟩
/-- a list that no slot holds is changed -/
theorem touch_nx {H : Hp} {B : AP'} {p : Addr} {ws : List V} : Nx H B (fun a => a = p) (upd H p (.lst ws)) B (fun a => a = p) :=
  ⟨fun a o h nm => by rw [upd_ne (show a ≠ p from nm)]; exact h, fun _ h => .inl h, fun _ h => .inl h, fun a h => upd_none h⟩
theorem Sim.touch {H : Hp} {B M : AP'} {σ : L2.St} (s : Sim C H B M σ env) {p : Addr} {ws : List V} (hb : B p) (hm : ¬ M p) (hl : ∃ us, H p = some (.lst us)) : Sim C (upd H p (.lst ws)) B M σ env := by
  have nx : ∀ {d : D} {v : V}, Rep C.K H B d v → Rep C.K (upd H p (.lst ws)) B d v := fun {d v} r => Rep.nx (M := fun a => a = p) s.bl (fun a e => by rw [show a = p from e]; exact hb) touch_nx d v r
  have nxl : ∀ {d : List D} {v : List V}, RepL C.K H B d v → RepL C.K (upd H p (.lst ws)) B d v := fun {d v} r => RepL.nx (M := fun a => a = p) s.bl (fun a e => by rw [show a = p from e]; exact hb) touch_nx d v r
  have ne : ∀ {a : Addr}, M a → a ≠ p := fun m e => hm (e ▸ m)
  refine ⟨s.len, fun a h => ?_, s.mb, s.lo, fun i d h => let ⟨v, e, r⟩ := s.val i d h; ⟨v, e, nx r⟩, fun i xs h => ?_, fun i xs h => ?_, s.inj, fun a o h => ⟨?_, (s.kp a o h).2⟩, fun d v h => nx (s.ex d v h), s.sl⟩
  rotate_left 3
  · have k := (s.kp a o h).1
    rw [upd_ne (fun e => by obtain ⟨us, hl⟩ := hl; rw [e, hl] at k; cases k)]
    exact k
  · by_cases e : a = p
    · subst e; exact ⟨.l ws, upd_same⟩
    · rw [upd_ne e]; exact s.bl a h
  · obtain ⟨a, vs, e, q, r, m, n⟩ := s.own i xs h
    exact ⟨a, vs, e, by rw [upd_ne (ne m)]; exact q, nxl r, m, n⟩
  · obtain ⟨a, vs, p', e, q, r, m⟩ := s.par i xs h
    exact ⟨a, vs, p', e, by rw [upd_ne (ne m)]; exact q, nxl r, m⟩
end Mn

/-! enumerate(.., start=k) -/
namespace Mn
open PySem PySem.Spec PyProof.Rows L2 RZ
variable {C : Ctx} {X : Cx} {F : FT} {env env' : Env} {d : D} {G : GS} {lv : Nat} {N : List PySem.Str} {sc : Scope}
/-- the list at a as it stands at each turn, each item in a new pair, counted from k -/
def IteS (K : PySem.W.Frag) (a : Addr) (k : Nat) : It :=
  ⟨fun i H => ∃ (xs : List V) (x : V), SqL K H a xs ∧ xs[i]? = some x, fun i H v H' => ∃ T x, v = .ref T ∧ H T = none ∧ H' = upd H T (.tup [.int ((k + i : Nat) : Int), x]) ∧ ∀ xs, SqL K H a xs → xs[i]? = some x, fun i H => ∃ xs : List V, SqL K H a xs ∧ xs.length ≤ i⟩
theorem apart_it {h : Heap} {it a l : Addr} {i : Nat} {items : Array Value} (hit : h.IsListIter it l i) (hl : h.IsList a items) : a ≠ it := by
  intro e
  subst e
  obtain ⟨o, h1, h2, _⟩ := hit
  obtain ⟨o', h3, h4, _⟩ := hl
  rw [h1] at h3; cases h3
  rw [h2] at h4; exact absurd h4 (by decide)
theorem enum_endC {prog : Program} {w : World} {A : Around} {E : Value → Shared → Prop} {s : Shared} {e it l : Addr} {c : Int} {i : Nat} {items : Array Value} {old : Value} {Q : Option Value → Shared → Prop} (hh : A.handled = none)
    (he : IsEnum s.heap e it c old) (hit : s.heap.IsListIter it l i) (hl : s.heap.IsList l items) (hx : items[i]? = none)
    (hQ : ∀ h', Heap.ExtBut it s.heap h' → Q none { s with heap := h' }) : wpAny (model prog w) A (pyNext (.ref e)) Q E s := by
  have hT : s.TypeIs (.ref e) "enumerate" := ⟨_, he, rfl⟩
  unfold pyNext
  refine wpAny_bind (wpAny_attempt (wpAny_callSpecial?_slot (name := PySem.Str.ofString "__next__") hT PySem.F.slot_enumerate_next
    (wpAny_call_entry PySem.F.slot_enumerate_next hT PySem.F.entry_enumerate_next ?_ (PySem.F.args_enumerate_next_1 _))))
  show wpAny _ _ (field (.ref e) 2 >>= _) _ _ _
  refine wpAny_bind (wpAny_field he rfl (x := .ref it) rfl ?_)
  refine wpAny_bind (wpAny_nextOf_list_end hh hit hl hx fun h' x he' hx' => ?_)
  obtain ⟨o, ho, hc⟩ := hx'
  refine wpAny_bind (wpAny_isInstance (T := "StopIteration") (b := true) ⟨o, ho, hc⟩ isSubtype_stop ?_)
  exact wpAny_pure (hQ _ he')
theorem turn_enumS {P : Program} {w : World} {K : PySem.W.Frag} {elts : List Expr} {kk : Nat} {tpos : Pos} (a e it : Addr) (k : Nat) (hea : e ≠ a) :
    Turn P w K (.Tuple elts kk tpos) (IteS K a k) [e, it] e (fun i h => (∃ old, IsEnum h e it ((k + i : Nat) : Int) old) ∧ h.IsListIter it a i ∧ e ≠ it) where
  mem := by simp
  obj := fun i h st b hb => by
    obtain ⟨⟨old, he⟩, ⟨o, ho, hc, hd⟩, _⟩ := st
    have e' : b = e ∨ b = it := by simpa using hb
    rcases e' with z | z
    · rw [z]; exact ⟨_, he, fun v q => nomatch q⟩
    · rw [z]; exact ⟨o, ho, fun v q => by rw [hd] at q; cases q⟩
  keep := fun i h h' st k => let ⟨⟨old, he⟩, hi, hne⟩ := st; ⟨⟨old, k e (by simp) _ he⟩, hi.at fun o q => k it (by simp) o q, hne⟩
  item := by
    intro X hP hw hK hc i pins s σ H E I hf st hg
    subst hP hw hK
    obtain ⟨⟨old, he⟩, hit, hne⟩ := st
    obtain ⟨xs, x, hq, hx⟩ := hg
    obtain ⟨its, rv, p, hz⟩ := I.list hq
    obtain ⟨u, hu, ru⟩ := rv.get hx
    have hel : e < s.heap.objs.size := Heap.lt_size he
    have hil : it < s.heap.objs.size := by obtain ⟨_, q, _⟩ := hit; exact Heap.lt_size q
    have hai : a ≠ it := apart_it hit p.isList
    have hu' : its.toArray[i]? = some u := by simpa using hu
    have hlt : i < its.toArray.size := (Array.getElem?_eq_some_iff.1 hu').1
    refine wpAny_pyNext_enum_itemC (Draws.list (A := X.A.in1) (I.ok.hd hc) it a hai its.toArray) he ⟨hit, p.isList⟩ hlt hne (by simp [hne, hea]) fun x' h' tk hx' ho hst hT hsz hk => ?_
    rw [hu'] at hx'
    cases hx'
    refine ⟨_, rfl, wpAny_letOwnedTupleGo_enum (s := { s with heap := h', toks := tk + 1 }) ho fun h'' he' sb => ?_⟩
    have hT2 : h''.get? s.heap.objs.size = some { cls := .type "tuple", data := .seq #[.int ((k + i : Nat) : Int) tk, u] } := (sb.2 _ (Nat.ne_of_gt hel)).trans hT
    have new : ObjOk X.prog X.w (upd H s.heap.objs.size (.tup [.int ((k + i : Nat) : Int), x])) h'' s.heap.objs.size (.tup [.int ((k + i : Nat) : Int), x]) :=
      ⟨by show 2 ≤ sizeLine; decide, [.int _ tk, u], .cons ⟨_, rfl⟩ (.cons ru .nil), ⟨_, hT2, rfl, _, rfl⟩⟩
    have I1 : Inv X pins σ (upd H s.heap.objs.size (.tup [.int ((k + i : Nat) : Int), x])) { s with heap := h'', toks := tk + 1 } :=
      I.turnedNew (ch := [e, it]) (fun b ob hb q => (sb.2 b (fun z => hb (by simp [z]))).trans (hk b ob (fun z => hb (by simp [z])) (fun z => hb (by simp [z])) q)) hf (Nat.le_refl _) new
    refine ⟨.ref s.heap.objs.size, _, I1, rfl, ⟨_, x, rfl, I.hok.fresh (Nat.le_refl _), rfl, fun ys hy => by rw [I.list_inj hy hq]; exact hx⟩, ⟨⟨u, ?_⟩, hst.1.at fun o q => (sb.2 it (Ne.symm hne)).trans q, hne⟩, fun b hb => ?_⟩
    · have e1 : ((k + (i + 1) : Nat) : Int) = ((k + i : Nat) : Int) + 1 := by omega
      rw [e1]; exact he'
    · have hb' : b < s.heap.objs.size := by
        have e' : b = e ∨ b = it := by simpa using hb
        rcases e' with z | z
        · rw [z]; exact hel
        · rw [z]; exact hil
      rw [upd_ne (Nat.ne_of_lt hb')]
      exact (hf b hb).1
  done := by
    intro X hP hw hK hc i pins s σ H E I hf st hg
    subst hP hw hK
    obtain ⟨⟨old, he⟩, hit, hne⟩ := st
    obtain ⟨xs, hq, hx⟩ := hg
    obtain ⟨its, rv, p, hz⟩ := I.list hq
    obtain ⟨f0, f1, f2, f3, f4, f5⟩ := hf it (by simp)
    have hl := rv.length
    exact enum_endC (I.ok.hd hc) he hit p.isList (by simp; omega) fun h' eb => ⟨rfl, I.turned (t' := s.toks) (fun b o hb q => eb b o hb q) f0 f1 f3 f4 f5⟩
  self := fun A i s Q E st h => let ⟨⟨_, he⟩, _⟩ := st; wpAny_pyIter_enum he h
def iEnumS (K : PySem.W.Frag) (k : Nat) (ta : TA) : TI := fun σ H R => ta σ H fun vs H1 => ∃ a xs, vs = [.ref a] ∧ SqL K H1 a xs ∧ R (IteS K a k) H1
theorem kw_start {env : PySem.Env} {pos cp kp : Pos} {j : Nat} {k : Int} : (backToKw pos (keywordEach [⟨some ("start" : PySem.Str), .Constant (.int k) j cp, kp⟩] env)).all (·.1.isSome) = true := rfl
theorem pi_enumS {e : Expr} {ta : TA} {p pos tpos cp kp : Pos} {j : Nat} {elts : List Expr} {kk k : Nat} (hk : k < 1000) (hg : Gl X "enumerate") (hm : X.mg "enumerate" = none) (ha : PA X [e] ta) (hs : starEach [e] X.env = [(false, eval e X.env)] := by rfl) :
    PI X (.Tuple elts kk tpos) (.Call (.Name "enumerate" p) [e] [⟨some ("start" : PySem.Str), .Constant (.int (k : Int)) j cp, kp⟩] pos) (iEnumS X.K k ta) := by
  refine ⟨fun pins s σ H R I h => ?_⟩
  apply wpAny_Call_Name_kw
  refine ld_blt I hg hm boot_enumerate ?_
  have hpl : ((backTo pos (starEach [e] X.env)).any (·.1) || (backToKw pos (keywordEach [⟨some ("start" : PySem.Str), .Constant (.int (k : Int)) j cp, kp⟩] X.env)).any (·.1.isNone)) = false := by rw [hs]; rfl
  refine PySem.W.callWith_of (P := fun h => X.K.In h) hpl (fun h _ => ⟨Keeper.machine, .inr (.inl rfl), PySem.W.Looks.of_pure rfl⟩) (PyProof.Rows.evalArgs_kw2 kw_start (thn (ha.run pos pins s σ H _ I h) fun us s1 ⟨vs, H1, I1, r1, q1⟩ => ?_) hs)
  refine thn ((pk_cons (nm := some ("start" : PySem.Str)) (kpos := kp) (pe_int (X := X) (i := (k : Int)) (j := j) (pos := cp)) pk_nil).run pos pins s1 σ H1 (fun ws H2 => ws = [.int k] ∧ H2 = H1) I1 ⟨rfl, rfl⟩) fun ks s2 ⟨ws, H2, I2, r2, e1, e2⟩ => ?_
  subst e1; subst e2
  obtain ⟨ku, rfl, t, rfl⟩ := vals1 r2
  obtain ⟨a, xs, ex, hq, q⟩ := q1
  subst ex
  cases r1 with
  | cons r rr =>
    cases rr
    cases r
    refine ⟨I2.kIn, ?_⟩
    obtain ⟨its, rv, p', hz⟩ := I2.list hq
    show wpAny _ _ (call (.type "enumerate") [.ref a] [(PySem.Str.ofString "start", .int k t)]) _ _ _
    refine enum_begins_start (begins_list a its.toArray) p'.isList (by omega) (by omega) fun h' he hit hsz hkp => wpAny_pyIter_enum he ?_
    have I3 : Inv X pins σ H2 { s2 with heap := h' } := I2.kept (t' := s2.toks) hkp
    have hal : a < s2.heap.objs.size := by obtain ⟨_, z, _⟩ := p'.isList; exact Heap.lt_size z
    refine ⟨s2.heap.objs.size + 1, [s2.heap.objs.size + 1, s2.heap.objs.size], _, _, H2, rfl, I3, turn_enumS a (s2.heap.objs.size + 1) s2.heap.objs.size k (Nat.ne_of_gt (Nat.lt_succ_of_lt hal)), ⟨⟨.none, he⟩, ⟨_, hit, rfl, rfl⟩, Nat.succ_ne_self _⟩, fun b hb => ?_, q⟩
    have e' : b = s2.heap.objs.size + 1 ∨ b = s2.heap.objs.size := by simpa using hb
    have hle : s2.heap.objs.size ≤ b := by
      rcases e' with z | z
      · rw [z]; exact Nat.le_add_right _ _
      · rw [z]; exact Nat.le_refl _
    exact I2.fpOk hle (I2.hok.fresh hle)
theorem wlk_enumS {K : PySem.W.Frag} {a : Addr} {its : List D} {k : Nat} : Wlk K (IteS K a k) (enu k its) (fun H B => ∃ vs, H a = some (.lst vs) ∧ ¬ B a ∧ RepL K H B its vs) where
  go := fun i H B ⟨vs, h, _, r⟩ hi => ⟨vs, vs[i]'(by rw [r.len]; rw [enu_len] at hi; exact hi), .inl (.inl h), by simp⟩
  stop := fun i H B ⟨vs, h, _, r⟩ hi => ⟨vs, .inl (.inl h), by rw [r.len]; rw [enu_len] at hi; exact hi⟩
  yld := fun i H B x H' d ⟨vs, h, _, r⟩ bl hd ⟨T, x1, e, hT, e2, y1⟩ => by
    subst e; subst e2
    obtain ⟨d1, g1, rfl⟩ := enu_get hd
    obtain ⟨v, e, q⟩ := r.get g1
    have := y1 vs (.inl (.inl h)); rw [e] at this; cases this
    exact ⟨Al.new hT, T, _, rfl, .inl (.inl upd_same), RepL.cons rfl (RepL.cons (q.al bl (Al.new hT)) RepL.nil)⟩
  stay := fun H B M H' B' M' bl mb ⟨vs, h, nb, r⟩ n => ⟨vs, n.keep a _ h fun z => nb (mb a z), fun z => (n.b a z).elim nb (fun q => by rw [q] at h; cases h), RepL.nx bl mb n _ _ r⟩
theorem r_enumS {x : Expr} {p pos tpos cp kp : Pos} {j : Nat} {elts : List Expr} {kk k : Nat} {e : Ex} (hk : k < 1000) (hK : X.K = C.K) (hg : Gl X "enumerate") (hm : X.mg "enumerate" = none) (n1 : nst x = true) (h1 : PE X x (tE C e)) :
    PI X (.Tuple elts kk tpos) (.Call (.Name "enumerate" p) [x] [⟨some ("start" : PySem.Str), .Constant (.int (k : Int)) j cp, kp⟩] pos) (tI C (.enumS k) (.cons e .nil)) :=
  (pi_enumS hk hg hm (r_cons n1 h1 r_nil) (star_cons n1)).imp fun σ H R h => by
    obtain ⟨B, M, env, xs, its, env', s, ev, w, q⟩ := h
    obtain ⟨x, g1, rfl⟩ := ev_one ev
    refine ⟨B, M, env, [x], env', s, ev, fun vs H1 B1 M1 s1 r1 n1 => ?_⟩
    obtain ⟨v1, rfl, r2⟩ := r1.one
    cases x <;> simp only [walk, reduceCtorEq, Option.some.injEq] at w
    subst w
    obtain ⟨a, vs, rfl, c1, c2, c5⟩ := r2
    exact ⟨a, vs, rfl, .inl (.inl c1), (by rw [hK]; exact q _ _ H1 B1 M1 s1 wlk_enumS ⟨vs, c1, c2, c5⟩ n1)⟩
end Mn

namespace Mn
open PySem L2 RZ
variable {C : Ctx} {X : Cx} {F : FT} {env env' : Env} {d : D} {G : GS} {lv : Nat} {N : List PySem.Str} {sc : Scope}

theorem ev_comp {w src tg cd el own} (h : evE F (.comp w src tg cd el own) env = some (d, env')) : ∃ xs e1 its ds, evL F src env = some (xs, e1) ∧ walk w xs = some its ∧ its.length ≤ lim ∧ (∀ i ∈ own, mutS e1 i = none) ∧ compL (fun e => evE F el e) (fun e => evT F cd e) tg own its e1 = some (ds, env') ∧ d = .lst ds := by
  rw [evE] at h
  obtain ⟨⟨xs, e1⟩, h1, h⟩ := bind_some h
  obtain ⟨its, h2, h⟩ := bind_some h
  split at h
  · rename_i hc
    obtain ⟨⟨ds, e2⟩, h3, h⟩ := bind_some h
    cases h
    simp only [Bool.and_eq_true, decide_eq_true_eq, List.all_eq_true, Option.isNone_iff_eq_none] at hc
    exact ⟨xs, e1, its, ds, h1, h2, hc.1, hc.2, h3, rfl⟩
  · cases h
def tGB (C : Ctx) (tg : Tg) : TG := fun v σ H Q => ∃ B0, tG (C.at B0) tg v σ H Q
def tEB (C : Ctx) (x : Ex) : TE := fun σ H Q => ∃ B0, tE (C.at B0) x σ H Q
def tTB (C : Ctx) (x : Ex) : TT := fun σ H Q => ∃ B0, tT (C.at B0) x σ H Q
theorem pe_B {e : Expr} {x : Ex} (h : ∀ B0, PE X e (tE (C.at B0) x)) : PE X e (tEB C x) := ⟨fun pins s σ H Q I ⟨B0, q⟩ => (h B0).run pins s σ H Q I q⟩
theorem pt_B {e : Expr} {x : Ex} (h : ∀ B0, PT X e (tT (C.at B0) x)) : PT X e (tTB C x) := ⟨fun pins s σ H Q I ⟨B0, q⟩ => (h B0).run pins s σ H Q I q⟩
theorem pg_B {e : Expr} {x : Tg} (h : ∀ B0, PG X e (tG (C.at B0) x)) : PG X e (tGB C x) := ⟨fun pins s σ H v u Q I r ⟨B0, q⟩ => (h B0).run pins s σ H v u Q I r q⟩
theorem compL_cons {el : Env → Option (D × Env)} {cd : Env → Option (Bool × Env)} {tg : Tg} {own : List Nat} {x : D} {xs ds : List D} (h : compL el cd tg own (x :: xs) env = some (ds, env')) :
    ∃ e1 b e2, bindT tg x (wipeE env own) = some e1 ∧ cd e1 = some (b, e2) ∧
      (if b = true then ∃ y e3 r, el e2 = some (y, e3) ∧ compL el cd tg own xs (backE env e3 own) = some (r, env') ∧ ds = y :: r else compL el cd tg own xs (backE env e2 own) = some (ds, env')) := by
  unfold compL at h
  obtain ⟨e1, h1, h⟩ := bind_some h
  obtain ⟨⟨b, e2⟩, h2, h⟩ := bind_some h
  refine ⟨e1, b, e2, h1, h2, ?_⟩
  cases b with
  | true =>
    obtain ⟨⟨y, e3⟩, h3, h⟩ := bind_some h
    obtain ⟨⟨r, e4⟩, h4, h⟩ := bind_some h
    cases h
    exact ⟨y, e3, r, h3, h4, rfl⟩
  | false => exact h
theorem wipe_wipe {σ : L2.St} {vs : List Nat} : L2.wipe (L2.wipe σ vs) vs = L2.wipe σ vs := by
  refine List.ext_getElem? fun j => ?_
  by_cases hj : j ∈ vs
  · have none_at : ∀ {τ : L2.St} {ws : List Nat}, j ∈ ws → (L2.wipe τ ws)[j]? = if j < τ.length then some none else none := by
      intro τ ws
      induction ws with
      | nil => intro h; cases h
      | cons w ws ih =>
        intro h
        unfold L2.wipe
        by_cases e : w = j
        · subst e
          by_cases hl : w < τ.length
          · rw [List.getElem?_set_self (by rw [wipe_length]; exact hl), if_pos hl]
          · rw [List.getElem?_eq_none (by rw [List.length_set, wipe_length]; omega), if_neg hl]
        · rw [List.getElem?_set_ne e]
          exact ih ((List.mem_cons.mp h).resolve_left (fun z => e z.symm))
    rw [none_at hj, none_at hj, wipe_length]
  · rw [wipe_out hj]
theorem back_mut {e0 f : Env} {vs : List Nat} (h : ∀ j ∈ vs, mutS e0 j = none) {j : Nat} (hj : j ∈ vs) : mutS (backE e0 f vs) j = none := by
  cases z : mutS (backE e0 f vs) j with
  | none => rfl
  | some xs =>
    rcases mutS_some z with z | z
    · rcases backE_get z with ⟨_, h2⟩ | ⟨h1, _⟩
      · have := h j hj; rw [mutS_own h2] at this; cases this
      · exact absurd hj h1
    · rcases backE_get z with ⟨_, h2⟩ | ⟨h1, _⟩
      · have := h j hj; rw [mutS_par h2] at this; cases this
      · exact absurd hj h1
/-- the lengths of frames stay -/
def LenE (F : FT) (x : Ex) : Prop := (∀ env d env', evE F x env = some (d, env') → env'.length = env.length) ∧ (∀ env d env', evT F x env = some (d, env') → env'.length = env.length)
/-- through a comprehension: what holds ahead of turn i -/
structure LcI (C : Ctx) (H0 : Hp) (B0 M0 : AP') (σ : L2.St) (p : Addr) (G : Hp → AP' → Prop) (H : Hp) (env : Env) (acc : List D) : Prop where
  ex : ∃ B M vs, Sim C H (ins p B) M σ env ∧ H p = some (.lst vs) ∧ RepL C.K H (ins p B) acc vs ∧ ¬ B p ∧ (∀ a, M a → B a) ∧ (∀ a, C.B0 a → B a) ∧ G H (ins p B) ∧ Nx H0 B0 M0 H B M
theorem lc_imp {w : Wk} {src cd el : Ex} {tg : Tg} {ow : List (PySem.Str × Nat)} (htg : ∀ i ∈ tgs tg, i ∈ ow.map (·.2)) (len1 : LenE C.F el) (len2 : LenE C.F cd) {σ : L2.St} {H : Hp} {Q : VK} (h : tN C (.comp w src tg cd el (ow.map (·.2))) σ H Q) :
    tLc (tI C w src) (tGB C tg) (tTB C cd) (tEB C el) (ow.map (·.2)) σ H Q := by
  obtain ⟨B, M, env, ds0, env', s, ev, q⟩ := h
  obtain ⟨xs, e1, its, ds, h1, h2, h3, hown, h4, e5⟩ := ev_comp ev
  cases e5
  refine ⟨B, M, env, xs, its, e1, s, h1, h2, fun J Gd H1 B1 M1 s1 wk g1 n1 p hp => ?_⟩
  have B0p : ¬ C.B0 p := fun z => by obtain ⟨_, z⟩ := s1.bl p (s1.lo p z); rw [hp] at z; cases z
  have Hp0 : H p = none := n1.al p hp
  refine ⟨fun i m Hc => m = its.length - i ∧ i ≤ its.length ∧ ∃ acc rest ei, LcI C H B M σ p Gd Hc ei acc ∧ acc.length ≤ i ∧ (∀ j ∈ ow.map (·.2), mutS ei j = none) ∧ compL (fun e => evE C.F el e) (fun e => evT C.F cd e) tg (ow.map (·.2)) (its.drop i) ei = some (rest, env') ∧ acc ++ rest = ds0,
    ⟨its.length, by simp, Nat.zero_le _, [], ds0, e1, ⟨⟨B1, M1, [], s1.lay hp, upd_same, rfl, ?_, s1.mb, s1.lo, ?_, n1.trans (Al.new hp).nx⟩⟩, Nat.le_refl _, hown, h4, rfl⟩, ?_⟩
  · intro z; obtain ⟨_, z⟩ := s1.bl p z; rw [hp] at z; cases z
  · exact wk.stay H1 B1 (fun _ => False) _ (ins p B1) (fun _ => False) s1.bl (fun _ z => z.elim) g1 ⟨fun a o h _ => Al.new hp a o h, fun a h => h.elim (fun e => .inr (e ▸ hp)) .inl, fun _ h => .inl h, fun a h => upd_none h⟩
  rintro i m Hc ⟨rfl, hi', acc, rest, ei, ⟨⟨Bc, Mc, vs, sc', hc1, hc2, hc3, hc4, hc5, hc6, hc7⟩⟩, hal, hnm, hcl, hds⟩
  have nMp : ¬ Mc p := fun z => hc3 (hc4 p z)
  by_cases hlt : i < its.length
  · -- a turn
    refine .inr ⟨wk.go i Hc _ hc6 hlt, fun H' => ∃ acc rest ei, LcI C H B M σ p Gd H' ei acc ∧ acc.length ≤ i + 1 ∧ (∀ j ∈ ow.map (·.2), mutS ei j = none) ∧ compL (fun e => evE C.F el e) (fun e => evT C.F cd e) tg (ow.map (·.2)) (its.drop (i + 1)) ei = some (rest, env') ∧ acc ++ rest = ds0,
      fun H' hN => ⟨its.length - (i + 1), by omega, rfl, hlt, hN⟩, fun v H' hy => ?_⟩
    have hd : its.drop i = its[i] :: its.drop (i + 1) := List.drop_eq_getElem_cons hlt
    rw [hd] at hcl
    obtain ⟨f1, b, f2, k1, k2, k3⟩ := compL_cons hcl
    obtain ⟨al, rv⟩ := wk.yld i Hc _ v H' its[i] hc6 sc'.bl (List.getElem?_eq_getElem hlt) hy
    have g6 : Gd H' (ins p Bc) := wk.stay Hc _ (fun _ => False) H' _ (fun _ => False) sc'.bl (fun _ z => z.elim) hc6 al.nx
    have sA : Sim (C.at (ins p C.B0)) H' (ins p Bc) Mc σ ei := (sc'.al al).insB nMp
    -- behind a turn, whatever it changed
    have fin : ∀ (σ2 : L2.St) (f : Env) (H2 : Hp) (B2 M2 : AP') (acc2 : List D) (vs2 : List V), Sim (C.at (ins p C.B0)) H2 B2 M2 σ2 f → Nx H' (ins p Bc) Mc H2 B2 M2 → L2.wipe σ2 (ow.map (·.2)) = L2.wipe σ (ow.map (·.2)) → f.length = ei.length → RepL C.K H2 B2 acc2 vs2 →
        LcI C H B M σ p Gd (upd H2 p (.lst vs2)) (backE ei f (ow.map (·.2))) acc2 := by
      intro σ2 f H2 B2 M2 acc2 vs2 s2 n2 hw hfl hr
      have B2p : B2 p := s2.lo p (.inl rfl)
      have M2p : ¬ M2 p := fun z => (n2.m p z).elim nMp fun e => by rw [al p _ hc1] at e; cases e
      have eB : B2 = ins p (fun a => B2 a ∧ a ≠ p) := by
        funext a
        refine propext ⟨fun h => ?_, fun h => h.elim (fun e => e ▸ B2p) (·.1)⟩
        by_cases e : a = p
        · exact .inl e
        · exact .inr ⟨h, e⟩
      have s3 : Sim C (upd H2 p (.lst vs2)) B2 M2 σ2 f := (s2.touch B2p M2p ⟨vs, n2.keep p _ (al p _ hc1) nMp⟩).downB fun a h => .inr h
      have nD : Nx Hc (ins p Bc) (ins p Mc) (upd H2 p (.lst vs2)) B2 M2 := by
        have n3 := (al.nx (B := ins p Bc) (M := Mc)).trans n2
        exact ⟨fun a o h nm => by rw [upd_ne (fun e => nm (.inl e))]; exact n3.keep a o h fun z => nm (.inr z), n3.b, fun a h => (n3.m a h).elim (fun z => .inl (.inr z)) .inr, fun a h => n3.al a (upd_none h)⟩
      have s0 : Sim C Hc (ins p Bc) (ins p Mc) σ ei := sc'.moreM (fun a z => .inr z) (fun a z => z.elim .inl fun z => .inr (hc4 a z)) fun a o h z => z.elim (fun e => by have k := (sc'.kp a o h).1; rw [e, hc1] at k; cases k) (sc'.kp a o h).2
      have s4 := Sim.back s0 s3 hnm nD hw hfl
      refine ⟨⟨fun a => B2 a ∧ a ≠ p, M2, vs2, eB ▸ s4, upd_same, ?_, fun z => z.2 rfl, fun a z => ⟨s2.mb a z, fun e => M2p (e ▸ z)⟩, fun a z => ⟨s2.lo a (.inr z), fun e => B0p (e ▸ z)⟩, ?_, ?_⟩⟩
      · rw [← eB]
        exact RepL.nx (M := fun a => a = p) s2.bl (fun a e => by rw [show a = p from e]; exact B2p) touch_nx _ _ hr
      · rw [← eB]
        exact wk.stay Hc _ (ins p Mc) _ B2 M2 sc'.bl (fun a z => z.elim .inl fun z => .inr (hc4 a z)) hc6 nD
      · have n3 := (al.nx (B := ins p Bc) (M := Mc)).trans n2
        refine ⟨fun a o h nm => ?_, fun a h => ?_, fun a h => ?_, fun a h => hc7.al a (n3.al a (upd_none h))⟩
        · have ne : a ≠ p := fun e => by subst e; rw [Hp0] at h; cases h
          rw [upd_ne ne]
          exact n3.keep a o (hc7.keep a o h nm) fun z => (hc7.m a z).elim nm fun e => by rw [e] at h; cases h
        · rcases n3.b a h.1 with z | z
          · rcases z with z | z
            · exact absurd z h.2
            · exact hc7.b a z
          · exact .inr (hc7.al a z)
        · rcases n3.m a h with z | z
          · exact hc7.m a z
          · exact .inr (hc7.al a z)
    have hfb : f1.length = ei.length := by rw [bind_len k1, wipeE_len]
    have hf2 : f2.length = ei.length := by rw [len2.2 _ _ _ k2, hfb]
    refine ⟨ins p C.B0, ins p Bc, Mc, _, f1, its[i], sA.wipe _, rv, k1, fun σ2 s2 w2 => ?_⟩
    have hw2 : L2.wipe σ2 (ow.map (·.2)) = L2.wipe σ (ow.map (·.2)) := by
      rw [w2 _ htg]
      exact wipe_wipe
    refine ⟨hw2, ins p C.B0, ins p Bc, Mc, f1, b, f2, s2, k2, fun H3 B3 M3 s3 n3 => ?_⟩
    have p3 : H3 p = some (.lst vs) := n3.keep p _ (al p _ hc1) nMp
    have r3 : RepL C.K H3 B3 acc vs := RepL.nx (sc'.al al).bl sc'.mb n3 _ _ (hc2.al sc'.bl al)
    cases b with
    | false =>
      refine ⟨acc, rest, _, ?_, by omega, fun j hj => ?_, k3, hds⟩
      · have := fin σ2 f2 H3 B3 M3 acc vs s3 n3 hw2 hf2 r3
        have e : upd H3 p (.lst vs) = H3 := by
          funext a; by_cases e : a = p
          · subst e; rw [upd_same, p3]
          · rw [upd_ne e]
        rw [e] at this; exact this
      · exact back_mut hnm hj
    | true =>
      obtain ⟨y, f3, r, k4, k5, e6⟩ := k3
      subst e6
      refine ⟨ins p C.B0, B3, M3, f2, y, f3, s3, k4, fun z H4 B4 M4 s4 r4 n4 => ?_⟩
      have M3p : ¬ M3 p := fun z => (n3.m p z).elim nMp fun e => by rw [al p _ hc1] at e; cases e
      have p4 : H4 p = some (.lst vs) := n4.keep p _ p3 M3p
      refine ⟨vs, p4, ?_, acc ++ [y], r, _, fin σ2 f3 H4 B4 M4 (acc ++ [y]) (vs ++ [z]) s4 (n3.trans n4) hw2 ?_ ((RepL.nx s3.bl s3.mb n4 _ _ r3).app (RepL.cons r4 RepL.nil)), ?_, fun j hj => back_mut hnm hj, k5, by rw [List.append_assoc]; exact hds⟩
      · rw [r3.len]; exact lim_lt (by omega)
      · rw [len1.1 _ _ _ k4, hf2]
      · simp; omega
  · -- the end
    have e : i = its.length := by omega
    subst e
    refine .inl ⟨wk.stop _ Hc _ hc6 (Nat.le_refl _), ?_⟩
    rw [List.drop_length] at hcl
    cases hcl
    rw [List.append_nil] at hds
    subst hds
    exact q p vs Hc Bc Mc sc' hc1 hc2 hc3 hc4 hc5 Hp0 hc7
theorem r_comp {w : Wk} {src cd el : Ex} {tg : Tg} {own : List Nat} {elt tge iter : Expr} {ifs : List Expr} {scope : Scope} {ow : List (PySem.Str × Nat)} {pos : Pos} (x : XOk X C G lv N sc) (hi : PI X tge iter (tI C w src)) (ok : BlkOk X.N X.env.scope scope ow) (how : ow.map (·.2) = own)
    (hg : ∀ (s : Shared) (H : Hp) (Cc : Addr) (cl : List (PySem.Str × Addr)) (fp : List Addr), PG (X.blk s H scope (compEnvC scope cl Cc X.env) fp) tge (tGB C tg)) (ht : ∀ (s : Shared) (H : Hp) (Cc : Addr) (cl : List (PySem.Str × Addr)) (fp : List Addr), PTs (X.blk s H scope (compEnvC scope cl Cc X.env) fp) ifs (tTB C cd))
    (he : ∀ (s : Shared) (H : Hp) (Cc : Addr) (cl : List (PySem.Str × Addr)) (fp : List Addr), PE (X.blk s H scope (compEnvC scope cl Cc X.env) fp) elt (tEB C el)) (hs : ∀ v, foldedSetIterable iter X.env v = pure v)
    (htg : ∀ i ∈ tgs tg, i ∈ own) (len1 : LenE C.F el) (len2 : LenE C.F cd) : PE X (.ListComp elt [⟨tge, iter, ifs, 0⟩] scope pos) (tN C (.comp w src tg cd el own)) := by
  subst how
  exact (pe_lc x.calm (x.n ▸ x.nd) hi ok hg ht he hs).imp fun σ H Q h => lc_imp htg len1 len2 h
theorem r_setLc {w : Wk} {src cd el : Ex} {tg : Tg} {own : List Nat} {i : Nat} {y : PySem.Str} {py : Pos} {elt tge iter : Expr} {ifs : List Expr} {scope : Scope} {ow : List (PySem.Str × Nat)} {pos spos : Pos} (x : XOk X C G lv N sc) (hy : X.N[i]? = some y) (hyl : X.env.scope.names.lookup y = some .local)
    (hsw : swapsWith (.ListComp elt [⟨tge, iter, ifs, 0⟩] scope pos) (some (.Name y py)) spos.line X.env = pure true) (hi : PI X tge iter (tI C w src)) (ok : BlkOk X.N X.env.scope scope ow) (how : ow.map (·.2) = own)
    (hg : ∀ (s : Shared) (H : Hp) (Cc : Addr) (cl : List (PySem.Str × Addr)) (fp : List Addr), PG (X.blk s H scope (compEnvC scope cl Cc X.env) fp) tge (tGB C tg)) (ht : ∀ (s : Shared) (H : Hp) (Cc : Addr) (cl : List (PySem.Str × Addr)) (fp : List Addr), PTs (X.blk s H scope (compEnvC scope cl Cc X.env) fp) ifs (tTB C cd))
    (he : ∀ (s : Shared) (H : Hp) (Cc : Addr) (cl : List (PySem.Str × Addr)) (fp : List Addr), PE (X.blk s H scope (compEnvC scope cl Cc X.env) fp) elt (tEB C el)) (hs : ∀ v, foldedSetIterable iter X.env v = pure v)
    (htg : ∀ i ∈ tgs tg, i ∈ own) (len1 : LenE C.F el) (len2 : LenE C.F cd) : PS X (.Assign [.Name y py] (.ListComp elt [⟨tge, iter, ifs, 0⟩] scope pos) spos) (tAsg (tN C (.comp w src tg cd el own)) (gName i)) := by
  subst how
  exact (ps_setLc x.calm (x.n ▸ x.nd) hy hyl hsw hi ok hg ht he hs).imp fun D σ H h => lc_imp htg len1 len2 h
end Mn

namespace Mn
open PySem PySem.Spec PyProof.Rows L2 RZ
variable {C : Ctx} {X : Cx} {F : FT} {env env' : Env} {d : D} {G : GS} {lv : Nat} {N : List PySem.Str} {sc : Scope}

/-! ### evaluations taken apart -/
theorem ev_att {cs a f} (h : evE F (.att cs a f) env = some (d, env')) : ∃ c ks xs, evE F a env = some (.obj c ks xs, env') ∧ c ∈ cs ∧ fldD ks xs f = some d := by
  rw [evE] at h
  obtain ⟨⟨x, e1⟩, h1, h⟩ := bind_some h
  cases x <;> simp at h
  obtain ⟨h2, d', h3, rfl, rfl⟩ := h
  exact ⟨_, _, _, h1, h2, h3⟩
theorem ev_sg {f} (h : evE F (.sg f) env = some (d, env')) : ∃ o, env[0]? = some (some Sl.slf) ∧ F "" [.val (.str f)] = some (d, o) ∧ env' = env := by
  rw [evE] at h
  split at h
  · rename_i e
    rw [Option.map_eq_some_iff] at h
    obtain ⟨⟨a, o⟩, h1, h2⟩ := h
    cases h2
    exact ⟨o, e, h1, rfl⟩
  · cases h
theorem ev_mk {c es} (h : evE F (.mk c es) env = some (d, env')) : ∃ ds ks xs, evL F es env = some (ds, env') ∧ F c (ds.map Sl.val) = some (.obj c ks xs, []) ∧ d = .obj c ks xs := by
  rw [evE] at h
  obtain ⟨⟨ds, e1⟩, h1, h⟩ := bind_some h
  obtain ⟨⟨r, os⟩, h2, h⟩ := bind_some h
  cases r <;> cases os <;> simp at h
  obtain ⟨rfl, rfl, rfl⟩ := h
  exact ⟨_, _, _, h1, h2, rfl⟩
theorem ev_mth {c m g a es} (h : evE F (.mth (.own c m g) a es) env = some (d, env')) : ∃ ks xs e1 ds, evE F a env = some (.obj c ks xs, e1) ∧ evL F es e1 = some (ds, env') ∧ m ∉ ks ∧ F g (.val (.obj c ks xs) :: ds.map Sl.val) = some (d, []) := by
  rw [evE] at h
  obtain ⟨⟨x, e1⟩, h1, h⟩ := bind_some h
  obtain ⟨⟨ds, e2⟩, h2, h⟩ := bind_some h
  match x, h1, h with
  | .obj c' ks xs, h1, h =>
    have h : (if c' = c ∧ m ∉ ks then (F g (.val (.obj c' ks xs) :: ds.map Sl.val)).bind fun p => if p.2.isEmpty then some (p.1, e2) else none else none) = some (d, env') := h
    by_cases hc : c' = c ∧ m ∉ ks
    · rw [if_pos hc, Option.bind_eq_some_iff] at h
      obtain ⟨⟨r, os⟩, h3, h4⟩ := h
      obtain ⟨rfl, hm⟩ := hc
      cases os with
      | nil => cases h4; exact ⟨ks, xs, e1, ds, h1, h2, hm, h3⟩
      | cons _ _ => cases h4
    · rw [if_neg hc] at h; cases h

/-! ### fields -/
theorem fld_get {K : PySem.W.Frag} {H : Hp} {B : AP'} : ∀ {ks : List PySem.Str} {xs : List D} {vs : List V} {f : PySem.Str} {d : D}, RepL K H B xs vs → fldD ks xs f = some d → ∃ v, (ks.zip vs).lookup f = some v ∧ Rep K H B d v
  | [], _, _, _, _, _, h => by cases h
  | _ :: _, [], _, _, _, _, h => by cases h
  | k :: ks, x :: xs, vs, f, d, r, h => by
    obtain ⟨v, t, rfl, r1, r2⟩ := r
    unfold fldD at h
    by_cases e : k = f
    · subst e
      rw [if_pos rfl] at h; cases h
      exact ⟨v, by simp, r1⟩
    · rw [if_neg e] at h
      obtain ⟨w, h1, h2⟩ := fld_get r2 h
      refine ⟨w, ?_, h2⟩
      rw [List.zip_cons_cons, List.lookup_cons]
      have : (f == k) = false := by simpa using fun z => e z.symm
      rw [this]
      exact h1
theorem zip_none {ks : List PySem.Str} {vs : List V} {m : PySem.Str} (h : m ∉ ks) : (ks.zip vs).lookup m = none := by
  induction ks generalizing vs with
  | nil => rfl
  | cons k ks ih =>
    cases vs with
    | nil => rfl
    | cons v vs =>
      simp only [List.mem_cons, not_or] at h
      rw [List.zip_cons_cons, List.lookup_cons]
      have : (m == k) = false := by simpa using h.1
      rw [this]
      exact ih h.2
theorem sup_base {e : Expr} {f : PySem.Str} {v : PySem.Env} (h : notSup e = true) : attributeBase e f v (eval e v) = eval e v := by
  unfold attributeBase
  split
  · cases h
  · rfl
/-- o.f -/
theorem r_att {cs : List PySem.Str} {a : Ex} {ea : Expr} {f : PySem.Str} {pos : Pos} (x : XOk X C G lv N sc) (hs : notSup ea = true) (hc : ∀ c ∈ cs, (c, f) ∈ G.ca) (ha : PE X ea (tE C a)) : PE X (.Attribute ea f pos) (tE C (.att cs a f)) := by
  refine (pe_fld ha (sup_base hs)).imp fun σ H Q h => ?_
  obtain ⟨B, M, env, d, env', s, e, q⟩ := h
  obtain ⟨c, ks, xs, h1, h2, h3⟩ := ev_att e
  refine ⟨B, M, env, _, env', s, h1, fun v H1 B1 M1 s1 r1 n1 => ?_⟩
  obtain ⟨p, Cc, dx, vs, rfl, hn, hp, nb, hl, r⟩ := r1
  obtain ⟨w, e1, rw⟩ := fld_get r h3
  obtain ⟨Cc', hn', cl, na⟩ := x.ca _ (hc c h2)
  rw [x.K] at hn'
  have hCC : Cc' = Cc := by
    have := hn'.symm.trans hn
    simpa using this
  subst hCC
  exact ⟨p, Cc', dx, _, w, rfl, hp, cl, na, e1, q w H1 B1 M1 s1 rw n1⟩
/-- self.f, while the object is made -/
theorem r_sg {f y : PySem.Str} {fl : List PySem.Str} {p pos : Pos} (x : XOk X C G lv N sc) (hN : X.N[0]? = some y) (hv : Vis X.env.scope y) (hd : (y == ("__debug__" : PySem.Str)) = false) (hcd : (y == ("__classdict__" : PySem.Str)) = false) (hg : G.slf = some fl) (hf : f ∈ fl) :
    PE X (.Attribute (.Name y p) f pos) (tE C (.sg f)) := by
  refine (pe_fld (pe_var hN hv hd hcd) (sup_base rfl)).imp fun σ H Q h => ?_
  obtain ⟨B, M, env, d, env', s, e, q⟩ := h
  obtain ⟨o, h1, h2, rfl⟩ := ev_sg e
  obtain ⟨a, Cc, dx, fs, v, k1, k2, cl, na, k3, k4⟩ := x.sf fl hg f hf d o h2
  obtain ⟨a', p1, p2⟩ := s.sl 0 h1
  rw [k1] at p1; cases p1
  exact ⟨_, p2, a, Cc, dx, fs, v, rfl, (s.kp a _ k2).1, cl, na, k3, q v H B M s (s.ex d v k4) (Nx.refl _ _ _)⟩
theorem star_all {env : PySem.Env} {pos : Pos} : ∀ {es : List Expr}, es.all nst = true → (backTo pos (starEach es env)).all (fun q => !q.1) = true
  | [], _ => rfl
  | e :: es, h => by
    simp only [List.all_cons, Bool.and_eq_true] at h
    have := star_any (env := env) (pos := pos) (es := e :: es) (by simp [h.1, h.2])
    rw [List.all_eq_not_any_not]
    simpa using this
theorem mth_eval {ea : Expr} {m : PySem.Str} {apos pos : Pos} {es : List Expr} {env : PySem.Env} (hs : notSup ea = true) (hl : (apos.endLine == pos.line) = true) (hn : es.length < 29) (hst : es.all nst = true) :
    eval (.Call (.Attribute ea m apos) es [] pos) env = (do
      let ov ← eval ea env
      standAt apos.atName
      let (f, first) ← holding [ov] (getMethod ov m (plainOf ea env))
      callWith pos f first (backTo pos (starEach es env)) (backToKw pos (keywordEach [] env))) := by
  rw [arm_eval_Call, sup_base hs]
  have hf : methodCallForm (es.length + ([] : List Keyword).length) (backTo pos (starEach es env)) (backToKw pos (keywordEach [] env)) = true := by
    unfold methodCallForm
    rw [star_all hst]
    show (true && true && decide (es.length + 0 + 0 < 30)) = true
    simp; omega
  congr 1
  funext ov
  congr 1
  funext _
  exact mcall_line hf hl
/-- o.m(..) -/
theorem r_mth {c m g : PySem.Str} {mm : PySem.Str × List PySem.Str} {a : Ex} {ea b : Expr} {args : List Expr} {es : Ex} {apos pos : Pos} (x : XOk X C G lv N sc) (hsup : notSup ea = true) (hline : (apos.endLine == pos.line) = true) (hfew : args.length < 20) (hg : G.mt.lookup g = some (args.length + 2, c, mm)) (hmm : mm.1 = m) (h1 : nst b = true) (h2 : args.all nst = true) (ha : PE X ea (tE C a)) (hes : PA X (b :: args) (tL C es))
    (hlen : ∀ env as env', evL C.F es env = some (as, env') → as.length = (b :: args).length) :
    PE X (.Call (.Attribute ea m apos) (b :: args) [] pos) (tE C (.mth (.own c m g) a es)) := by
  constructor
  intro pins s σ H Q I h
  obtain ⟨B, M, env, d, env', sm, e, q⟩ := h
  obtain ⟨ks, xs, e1, ds, k1, k2, k3, k4⟩ := ev_mth e
  subst hmm
  obtain ⟨Cc, fa, fd, ps, k0, c1, c2, c3, F0, lk, l1, b1, _⟩ := (x.mt g _ c mm hg).ex
  have F1 := F0.mono (Nat.le_of_succ_le lk)
  refine methcall_of (pl := plainOf ea X.env) ha I ?_ (mth_eval hsup hline (by rw [List.length_cons]; omega) (by simp only [List.all_cons, h1, h2, Bool.and_self]))
  refine ⟨B, M, env, _, e1, sm, k1, fun v H1 B1 M1 s1 r1 n1 => ?_⟩
  obtain ⟨p, Cc', dx, vs, rfl, hn, hp, nb, hl, r⟩ := r1
  rw [x.K] at c1
  have hCC : Cc = Cc' := by
    have := c1.symm.trans hn
    simpa using this
  subst hCC
  refine ⟨p, Cc, dx, _, fa, rfl, hp, c2, c3, zip_none k3, fun s2 I2 => ?_⟩
  refine PySem.W.callWith_K (first := [.ref p]) (h₀ := X.base) I2.ok.mod.kin c3.kp (thn (hes.run pos pins s2 σ H1 (fun ws H2 => spF X.K C.F g (args.length + 2) (.ref p :: ws) H2 Q E0) I2 ?_) ?_) (star_cons h1) (star_any h2)
  · refine ⟨B1, M1, e1, ds, env', s1, k2, fun ws H2 B2 M2 s2 r2 n2 => ?_⟩
    have ro : Rep C.K H2 B2 (.obj c ks xs) (.ref p) := Rep.nx s1.bl s1.mb n2 _ _ ⟨p, Cc, dx, vs, rfl, hn, hp, nb, hl, r⟩
    rw [x.K]
    refine ⟨B2, .val (.obj c ks xs) :: ds.map Sl.val, [], d, [], s2.bl, ⟨.ref p, ws, rfl, ro, argR_vals r2⟩, List.nodup_nil, ?_, k4, fun v H3 r3 _ keep al => ?_⟩
    · rw [List.length_cons, r2.len, hlen _ _ _ k2, List.length_cons]
    · have a3 : Al H2 H3 := fun z o hz => keep z o hz (by simp)
      exact q v H3 B2 M2 (s2.al a3) r3 (n1.trans (n2.trans a3.nx))
  · rintro us s3 ⟨ws, H2, I3, rv, sp⟩
    refine ⟨I3.kIn, ?_⟩
    exact callG (us := .ref p :: us) (vs := .ref p :: ws) F1 x.qt x.room b1 I3 (.cons rfl rv) sp
theorem ownkS_of {c m g : PySem.Str} {x : D} {rs : List Nat} {so : Option (List Sl)} (h : ownkS F c m g x rs so = some d) : ∃ ks xs ss, x = .obj c ks xs ∧ so = some ss ∧ m ∉ ks ∧ rs.isEmpty = true ∧ F g (.val (.obj c ks xs) :: ss) = some (d, []) := by
  unfold ownkS at h
  split at h
  · rename_i c' ks xs ss
    by_cases hc : c' = c ∧ m ∉ ks ∧ rs.isEmpty = true
    · rw [if_pos hc, Option.bind_eq_some_iff] at h
      obtain ⟨⟨r, os⟩, h3, h4⟩ := h
      obtain ⟨rfl, hm, hr⟩ := hc
      cases os with
      | nil => cases h4; exact ⟨ks, xs, ss, rfl, rfl, hm, hr, h3⟩
      | cons _ _ => cases h4
    · rw [if_neg hc] at h; cases h
  · cases h
theorem ev_mthk {c m g a es} (h : evE F (.mth (.ownk c m g) a es) env = some (d, env')) : ∃ ks xs e1 as ss, evE F a env = some (.obj c ks xs, e1) ∧ evA F es e1 = some (as, env') ∧ argS env' as = some ss ∧ m ∉ ks ∧ (refs as).isEmpty = true ∧ F g (.val (.obj c ks xs) :: ss) = some (d, []) := by
  rw [evE] at h
  obtain ⟨⟨x, e1⟩, h1, h⟩ := bind_some h
  obtain ⟨⟨as, e2⟩, h2, h⟩ := bind_some h
  obtain ⟨d', h3, h⟩ := bind_some h
  cases h
  obtain ⟨ks, xs, ss, rfl, ha, hm, hr, hF⟩ := ownkS_of h3
  exact ⟨ks, xs, e1, as, ss, h1, h2, ha, hm, hr, hF⟩
theorem lnoI_of {p : D × List (List D)} {n : Int} (h : lnoI p = some n) : p = (.int n, []) ∧ 0 ≤ n ∧ wi 62 n = true := by
  unfold lnoI at h
  split at h
  · rw [Option.ite_none_right_eq_some] at h
    obtain ⟨h1, h2⟩ := h
    cases h2
    rw [Bool.and_eq_true, decide_eq_true_eq] at h1
    exact ⟨rfl, h1.1, h1.2⟩
  · cases h
theorem ev_lno {c g a es} (h : evE F (.mth (.lno c g) a es) env = some (d, env')) : ∃ ks xs n, evE F a env = some (.obj c ks xs, env') ∧ F g [.val (.obj c ks xs)] = some (.int n, []) ∧ 0 ≤ n ∧ wi 62 n = true ∧ d = .int n := by
  rw [evE] at h
  obtain ⟨⟨x, e1⟩, h1, h⟩ := bind_some h
  match x, h1, h with
  | .obj c' ks xs, h1, h =>
    have h : (if c' = c then ((F g [.val (.obj c' ks xs)]).bind lnoI).map fun n => (D.int n, e1) else none) = some (d, env') := h
    by_cases hc : c' = c
    · rw [if_pos hc, Option.map_eq_some_iff] at h
      obtain ⟨n, h3, h4⟩ := h
      rw [Option.bind_eq_some_iff] at h3
      obtain ⟨p, h5, h6⟩ := h3
      obtain ⟨rfl, h7, h8⟩ := lnoI_of h6
      subst hc
      cases h4
      exact ⟨ks, xs, n, h1, h5, h7, h8, rfl⟩
    · rw [if_neg hc] at h; cases h
theorem arV {K : PySem.W.Frag} {H : Hp} {B : AP'} {σ : L2.St} {env : Env} : ∀ {as : List Ar} {ss : List Sl} {vs : List V}, (refs as).isEmpty = true → argS env as = some ss → ArL K H B σ as vs → ArgR K H B ss vs [] ∧ vs.length = as.length
  | [], ss, vs, _, h, r => by cases h; rw [show vs = [] from r]; exact ⟨⟨rfl, rfl⟩, rfl⟩
  | .v d :: as, ss, vs, hr, h, r => by
    have h : (argS env as).map (Sl.val d :: ·) = some ss := h
    rw [Option.map_eq_some_iff] at h
    obtain ⟨t, h1, rfl⟩ := h
    obtain ⟨v, u, rfl, r1, r2⟩ := r
    obtain ⟨g1, g2⟩ := arV (as := as) hr h1 r2
    exact ⟨⟨v, u, rfl, r1, g1⟩, by rw [List.length_cons, List.length_cons, g2]⟩
  | .r i :: as, ss, vs, hr, h, r => by cases hr
theorem gP_one {α : Type} {n : Nat} {u : α} {ws : List α} (h : ws.length = n - 1) (hn : 2 ≤ n) : gP 1 (n - 1) (List.range n) [u] ws = u :: ws := by
  unfold gP
  rw [if_pos ⟨rfl, h⟩]
  have : n = ([u] ++ ws).length := by simp; omega
  rw [this, perm_range]
  rfl
/-- o.m(k = .., ..) -/
theorem r_mthk {c m g : PySem.Str} {mm : PySem.Str × List PySem.Str} {a : Ex} {ea : Expr} {kw : Keyword} {kws : List Keyword} {es : Ex} {apos pos : Pos} (x : XOk X C G lv N sc) (hsup : notSup ea = true) (hline : (apos.endLine == pos.line) = true) (hfew : kws.length < 20) (hg : G.mt.lookup g = some (kws.length + 2, c, mm)) (hmm : mm.1 = m) (hk : kwN (kw :: kws) = some mm.2) (ha : PE X ea (tE C a)) (hes : PK X (kw :: kws) (tA C es))
    (hlen : ∀ env as env', evA C.F es env = some (as, env') → as.length = kws.length + 1) :
    PE X (.Call (.Attribute ea m apos) [] (kw :: kws) pos) (tE C (.mth (.ownk c m g) a es)) := by
  subst hmm
  obtain ⟨Cc, fa, fd, ps, k0, c1, c2, c3, F0, lk, l1, b1, kb⟩ := (x.mt g _ c mm hg).ex
  have F1 := F0.mono (Nat.le_of_succ_le lk)
  obtain ⟨w1, w2, w3, w4⟩ := kw_all (env := X.env) (pos := pos) hk
  have KB := kb (by omega)
  constructor
  intro pins s σ H Q I h
  obtain ⟨B, M, env, d, env', sm, e, q⟩ := h
  obtain ⟨ks, xs, e1, as, ss, k1, k2, k2', k3, kr, k4⟩ := ev_mthk e
  have ht : eval (.Call (.Attribute ea mm.1 apos) [] (kw :: kws) pos) X.env = (do
      let ov ← eval ea X.env
      standAt apos.atName
      let (f, first) ← holding [ov] (getMethod ov mm.1 (plainOf ea X.env))
      callWith pos f first (backTo pos (starEach [] X.env)) (backToKw pos (keywordEach (kw :: kws) X.env))) := by
    rw [arm_eval_Call, sup_base hsup]
    have hf : methodCallForm (([] : List Expr).length + (kw :: kws).length) (backTo pos (starEach [] X.env)) (backToKw pos (keywordEach (kw :: kws) X.env)) = true := by
      unfold methodCallForm
      rw [w1]
      have h0 : (backTo pos (starEach [] X.env)).all (fun q => !q.1) = true := rfl
      rw [h0, Bool.true_and, Bool.true_and, decide_eq_true_eq]
      rw [List.length_cons, List.length_nil]
      split <;> omega
    congr 1
    funext ov
    congr 1
    funext _
    exact mcall_line hf hline
  refine PySem.W.methodCall_KW (pl := plainOf ea X.env) (thn (ha.run pins s σ H (fun v1 H1 => ∃ B1 M1, Sim C H1 B1 M1 σ e1 ∧ Rep C.K H1 B1 (.obj c ks xs) v1 ∧ Nx H B M H1 B1 M1) I ⟨B, M, env, _, e1, sm, k1, fun v H1 B1 M1 s1 r1 n1 => ⟨B1, M1, s1, r1, n1⟩⟩) ?_) ht
  rintro u s1 ⟨v1, H1, I1, rx, B1, M1, sm1, r1, n1⟩
  obtain ⟨p, Cc', dx, vs, rfl, hn, hp, nb, hl, r⟩ := r1
  obtain rfl : u = Value.ref p := rx
  rw [x.K] at c1
  have hCC : Cc = Cc' := by
    have := c1.symm.trans hn
    simpa using this
  subst hCC
  refine getmeth_ok I1 hp c2 c3 (zip_none k3) ?_
  refine PySem.W.callWith_KW0 (first := [.ref p]) (h₀ := X.base) I1.ok.mod.kin c3.kp w1 (thn (hes.run pos pins s1 σ H1 (fun ws H2 => ∃ B2 M2, Sim C H2 B2 M2 σ env' ∧ ArL C.K H2 B2 σ as ws ∧ Nx H1 B1 M1 H2 B2 M2) I1 ⟨B1, M1, e1, as, env', sm1, k2, fun vs H2 B2 M2 s2 r2 n2 => ⟨B2, M2, s2, r2, n2⟩⟩) ?_) (by rw [w3]; rfl)
  rintro us s3 ⟨ws, H2, I3, rv, B2, M2, sm2, r2, n2⟩
  refine ⟨I3.kIn, ?_⟩
  rw [w2]
  have ro : Rep C.K H2 B2 (.obj c ks xs) (.ref p) := Rep.nx sm1.bl sm1.mb n2 _ _ ⟨p, Cc, dx, vs, rfl, hn, hp, nb, hl, r⟩
  obtain ⟨ar, al⟩ := arV kr k2' r2
  have wl : ws.length = kws.length + 2 - 1 := by rw [al, hlen _ _ _ k2]; omega
  refine callKG (us := [.ref p]) (vs := [.ref p]) F1 x.qt x.room KB I3 (.cons rfl .nil) rv ?_
  rw [gP_one wl (by omega), x.K]
  refine ⟨B2, .val (.obj c ks xs) :: ss, [], d, [], sm2.bl, ⟨.ref p, ws, rfl, ro, ar⟩, List.nodup_nil, ?_, k4, fun v H3 r3 _ keep al => ?_⟩
  · rw [List.length_cons, wl]; omega
  · have a3 : Al H2 H3 := fun z o hz => keep z o hz (by simp)
    exact q v H3 B2 M2 (sm2.al a3) r3 (n1.trans (n2.trans a3.nx))
theorem Qt.in1 {A : Around} (h : Qt A) : Qt A.in1 := h
theorem lenG {pins : List (Addr × Obj)} {σ : L2.St} {H : Hp} {s : Shared} {Q : VK} {k : Nat} {a Cc dx fa : Addr} {fs : List (PySem.Str × V)} {fd : FuncData} {ps : List PySem.Str} {sp : Sp} (I : Inv X pins σ H s) (ha : H a = some (.ins Cc dx fs)) (hm : Meth X.K Cc "__len__" fa) (F : FnG X.prog X.w X.K X.mg X.base k fa fd ps sp) (qt : Qt X.A) (rm : Room (k + 1) X.A) (bd : Binds X.K fd ps [])
    (h : sp [.ref a] H (fun v H' => ∃ n, v = .int n ∧ 0 ≤ n ∧ n < 2 ^ 63 ∧ Q (.int n) H') E0) : wpAny (model X.prog X.w) X.A (call (.builtin "len") [.ref a]) (EP X pins σ Q) X.xe s := by
  obtain ⟨mA, O, _, _, _, _⟩ := ins_get I.hok ha
  obtain ⟨od, IA, _⟩ := O.look
  have rv : Vals [V.ref a] [Value.ref a] := .cons rfl .nil
  have hl : ([Value.ref a] : List Value).length = ps.length := by rw [← rv.length]; exact F.ln _ _ _ _ h
  have b := bd s [Value.ref a] I.kIn (by rw [List.append_nil]; exact hl)
  rw [List.append_nil] at b
  refine Calls.call_function_entry kind_len plain_len entry_len (args_len1 _) ?_
  unfold Builtin.«len»
  refine wpAny_bind (m := oneArg "len" _) (wpAny_pure ?_)
  refine wpAny_bind (m := callSpecial? (.ref a) (PySem.Str.ofString "__len__")) ?_
  unfold callSpecial? specialOf
  refine wpAny_bind (wpAny_bind (IA.type.here ((PySem.W.looks_findIn I.kIn hm.at_).here ?_)))
  refine wpAny_holding ?_
  refine wpAny_bind ((PySem.W.bind_fn I.kIn (.ref a) (beq_iff_eq.mp hm.fn)).here ?_)
  refine wpAny_bind (wpAny_call (codeAny_mono (F.go X.A.in1 X.stack s H ⟨[.ref a], []⟩ [.ref a] [.ref a] _ E0 qt.in1 rm.in1 I.env0.in1 b rv h) ?_))
  intro r s' hr
  match r, hr with
  | .ok (.ret u), hr =>
    obtain ⟨v, H', J2, rw', n, ev, h0, h1, q3⟩ := I.after hr
    subst ev
    obtain ⟨tk, rfl⟩ := (show ∃ t, u = Value.int n t from rw')
    refine wpAny_pure ?_
    refine wpAny_bind (wpAny_holding (wpAny_pure ?_))
    refine wpAny_bind (wpAny_letGo ?_)
    show wpAny _ _ (if n < 0 then _ else _) _ _ _
    rw [if_neg (by omega)]
    show wpAny _ _ (if n ≥ 2 ^ 63 then _ else _) _ _ _
    rw [if_neg (by omega)]
    exact wpAny_bind (wpAny_mkInt (wpAny_pure ⟨_, rfl, .int n, H', J2.tok _, ⟨_, rfl⟩, q3⟩))
  | .ok .next, hr => exact False.elim hr
  | .ok .brk, hr => exact False.elim hr
  | .ok .cont, hr => exact False.elim hr
  | .error e, hr => exact False.elim hr
theorem call_lno {k : Nat} {Cc fa : Addr} {fd : FuncData} {ps : List PySem.Str} {sp : Sp} (hm : Meth X.K Cc "__len__" fa) (F : FnG X.prog X.w X.K X.mg X.base k fa fd ps sp) (qt : Qt X.A) (rm : Room (k + 1) X.A) (bd : Binds X.K fd ps []) :
    CallR X (.builtin "len") (fun xs H Q => ∃ a dx fs, xs = [.ref a] ∧ H a = some (.ins Cc dx fs) ∧ sp [.ref a] H (fun v H' => ∃ n, v = .int n ∧ 0 ≤ n ∧ n < 2 ^ 63 ∧ Q (.int n) H') E0) := by
  intro pins s σ H xs us Q I r ⟨a, dx, fs, e, ha, h⟩
  subst e
  obtain ⟨u, rfl, ru⟩ := vals1 r
  obtain rfl : u = Value.ref a := ru
  exact lenG I ha hm F qt rm bd h
/-- len(o) by an own __len__ -/
theorem r_lno {c g : PySem.Str} {mm : PySem.Str × List PySem.Str} {e : Ex} {a : Expr} {p pos : Pos} (x : XOk X C G lv N sc) (hg : G.mt.lookup g = some (1, c, mm)) (hmm : mm.1 = "__len__") (gl : Gl X ("len" : PySem.Str)) (hm : X.mg "len" = none) (hn : nst a = true) (ha : PE X a (tE C e)) :
    PE X (.Call (.Name "len" p) [a] [] pos) (tE C (.mth (.lno c g) e .nil)) := by
  obtain ⟨Cc, fa, fd, ps, k0, c1, c2, c3, F0, lk, l1, b1, _⟩ := (x.mt g _ c mm hg).ex
  rw [hmm] at c3
  refine (pe_callB (call_lno c3 F0 x.qt (x.room.mono lk) b1) gl hm (by decide +kernel) (pa_cons ha pa_nil (star_cons hn)) (by decide) (by decide) (star_cons hn) rfl).imp fun σ H Q h => ?_
  obtain ⟨B, M, env, d, env', s, ev, q⟩ := h
  obtain ⟨ks, xs, n, k1, k2, k3, k4, rfl⟩ := ev_lno ev
  refine ⟨B, M, env, _, env', s, k1, fun v H1 B1 M1 s1 r1 n1 => ?_⟩
  obtain ⟨pp, Cc', dx, vs, rfl, hn', hp, nb, hl, r⟩ := r1
  rw [x.K] at c1
  have hCC : Cc = Cc' := by
    have := c1.symm.trans hn'
    simpa using this
  subst hCC
  refine ⟨pp, dx, _, rfl, hp, ?_⟩
  show spF X.K C.F g 1 [V.ref pp] H1 _ E0
  rw [x.K]
  refine ⟨B1, [.val (.obj c ks xs)], [], .int n, [], s1.bl, ⟨.ref pp, [], rfl, ⟨pp, Cc, dx, vs, rfl, hn', hp, nb, hl, r⟩, ⟨rfl, rfl⟩⟩, List.nodup_nil, rfl, k2, fun v H3 r3 _ keep al => ?_⟩
  have a3 : Al H1 H3 := fun z o hz => keep z o hz (by simp)
  have w := wi_lt k4 (by decide)
  exact ⟨n, r3, k3, by omega, q (.int n) H3 B1 M1 (s1.al a3) rfl (n1.trans a3.nx)⟩
/-! ### an object is made -/
theorem makeG {pins : List (Addr × Obj)} {σ : L2.St} {H : Hp} {s : Shared} {Q : VK} {k : Nat} {fa Cc : Addr} {fd : FuncData} {ps : List PySem.Str} {sp : Sp} {us : List Value} {vs : List V} (Mm : Mk X.K Cc fa) (F : FnG X.prog X.w X.K X.mg X.base k fa fd ps sp) (qt : Qt X.A) (rm : Room (k + 1) X.A) (bd : Binds X.K fd ps [])
    (I : Inv X pins σ H s) (rv : Vals vs us) (h : ∀ p dx, H p = none → H dx = none → dx ≠ p → sp (.ref p :: vs) (upd (upd H dx (.own p)) p (.ins Cc dx [])) (fun v H2 => v = .non ∧ Q (.ref p) H2) E0) :
    wpAny (model X.prog X.w) X.A (call (.ref Cc) us) (EP X pins σ Q) X.xe s := by
  have hq := h (s.heap.objs.size + 1) s.heap.objs.size (I.hok.fresh (Nat.le_succ _)) (I.hok.fresh (Nat.le_refl _)) (Nat.ne_of_lt (Nat.lt_succ_self _))
  have J := Inv.made (C := Cc) I
  have rr : Vals (V.ref (s.heap.objs.size + 1) :: vs) (Value.ref (s.heap.objs.size + 1) :: us) := .cons rfl rv
  have hl : (Value.ref (s.heap.objs.size + 1) :: us).length = ps.length := by rw [← rr.length]; exact F.ln _ _ _ _ hq
  have b := bd _ (Value.ref (s.heap.objs.size + 1) :: us) J.kIn (by rw [List.append_nil]; exact hl)
  rw [List.append_nil] at b
  have qm : Qt (X.A.under (.builtin "type.__call__" ⟨.ref Cc :: us, []⟩)) := by
    have : X.A.guards = some [] := qt
    show Around.guards _ = some []
    first | exact this | simp [Around.under, pushGuards, Code.guards, Code.isGuard, guardIds, this]
  refine wpAny_call (make_map (f := fa) I.kIn Mm.makes Mm.init (beq_iff_eq.mp Mm.fn) (codeAny_mono (F.go _ X.stack _ _ ⟨Value.ref (s.heap.objs.size + 1) :: us, []⟩ _ _ _ E0 qm (rm.make Cc us []) (J.env0.make Cc us []) b rr hq) ?_))
  intro r s' hr
  match r, hr with
  | .ok (.ret u), hr =>
    obtain ⟨v, H', J2, rw, ev, q3⟩ := J.after hr
    subst ev
    exact ⟨rw, ⟨V.ref (s.heap.objs.size + 1), H', J2, rfl, q3⟩⟩
  | .ok .next, hr => exact False.elim hr
  | .ok .brk, hr => exact False.elim hr
  | .ok .cont, hr => exact False.elim hr
  | .error e, hr => exact False.elim hr
theorem r_mk {c : PySem.Str} {a : Expr} {args : List Expr} {es : Ex} {p pos : Pos} (x : XOk X C G lv N sc) (hc : G.mks.lookup c = some (args.length + 1)) (hg : Gl X c) (hd : (c == ("__debug__" : PySem.Str)) = false) (h1 : nst a = true) (h2 : args.all nst = true) (hes : PA X (a :: args) (tL C es))
    (hlen : ∀ env as env', evL C.F es env = some (as, env') → as.length = (a :: args).length) : PE X (.Call (.Name c p) (a :: args) [] pos) (tE C (.mk c es)) := by
  obtain ⟨Cc, fa, fd, ps, k, n1, m1, mk1, F1, lk, l1, b1⟩ := (x.mkr c _ hc).ex
  constructor
  intro pins s σ H Q I h
  obtain ⟨B, M, env, d, env', sm, e, q⟩ := h
  obtain ⟨ds, ks, xs, k1, k2, rfl⟩ := ev_mk e
  apply wpAny_Call_Name_kw
  apply ld_glob I hg m1 _ hd
  refine PySem.W.callWith_K (h₀ := X.base) I.ok.mod.kin mk1.kp (thn (hes.run pos pins s σ H (fun ws H2 => ∃ B2 M2, Sim C H2 B2 M2 σ env' ∧ RepL C.K H2 B2 ds ws ∧ Nx H B M H2 B2 M2) I ⟨B, M, env, ds, env', sm, k1, fun ws H2 B2 M2 s2 r2 n2 => ⟨B2, M2, s2, r2, n2⟩⟩) ?_) (star_cons h1) (star_any h2)
  rintro us s1 ⟨ws, H1, I1, rv, B1, M1, s1', r1, nx1⟩
  refine ⟨I1.kIn, ?_⟩
  refine makeG mk1 F1 x.qt (x.room.mono lk) b1 I1 rv fun pp dx hp hdx ne => ?_
  have a1 : Al H1 (upd (upd H1 dx (.own pp)) pp (.ins Cc dx [])) := (Al.new hdx).trans (Al.new (by rw [upd_ne (Ne.symm ne)]; exact hp))
  have bl2 : BL (upd (upd H1 dx (.own pp)) pp (.ins Cc dx [])) (ins pp B1) := fun z hz => hz.elim (fun e => ⟨.i Cc dx [], by rw [e, upd_same]; rfl⟩) fun hz => by
    obtain ⟨o, ho⟩ := s1'.bl z hz
    exact ⟨o, a1 _ _ ho⟩
  have r2 : RepL X.K (upd (upd H1 dx (.own pp)) pp (.ins Cc dx [])) (ins pp B1) ds ws := by
    rw [x.K]
    exact RepL.nx (M := fun _ => False) (M' := fun _ => False) s1'.bl (fun _ z => z.elim) ⟨fun z o hz _ => a1 z o hz, fun z hz => hz.elim (fun e => .inr (e ▸ hp)) .inl, fun _ hz => .inl hz, fun z hz => by
      have := upd_none hz
      exact upd_none this⟩ ds ws r1
  refine ⟨pp, ws, Cc, dx, ins pp B1, ds, ks, xs, rfl, ?_, n1, upd_same, .inl rfl, bl2, r2, k2, fun H' vs hi rx hlk keep al => ⟨rfl, ?_⟩⟩
  · rw [r1.len, hlen _ _ _ k1, List.length_cons]
  have a2 : Al H1 H' := fun z o hz => keep z o (a1 z o hz) fun e => by subst e; rw [hp] at hz; cases hz
  have blH : BL H' (ins pp B1) := fun z hz => hz.elim (fun e => ⟨.i Cc dx (ks.zip vs), by rw [e]; exact hi⟩) fun hz => by
    obtain ⟨o, ho⟩ := s1'.bl z hz
    exact ⟨o, a2 _ _ ho⟩
  have nB : ¬ B1 pp := fun hz => by
    obtain ⟨o, ho⟩ := s1'.bl pp hz
    rw [hp] at ho; cases ho
  refine q (.ref pp) H' B1 M1 (s1'.al a2) ⟨pp, Cc, dx, vs, rfl, by rw [← x.K]; exact n1, hi, nB, hlk, ?_⟩ (nx1.trans a2.nx)
  rw [← x.K]
  exact rx.less blH fun z hz => .inr hz
end Mn

/-! texts: their methods, f-strings -/
namespace Mn
open PySem PySem.Spec PyProof.Rows L2 RZ
variable {C : Ctx} {X : Cx} {F : FT} {env env' : Env} {d : D} {G : GS} {lv : Nat} {N : List PySem.Str} {sc : Scope}
theorem ev_tx {m : Mt} {a es : Ex} (hm : ∀ c n g, m ≠ .own c n g) (hm2 : ∀ c n g, m ≠ .ownk c n g) (hm3 : ∀ c g, m ≠ .lno c g) (h : evE F (.mth m a es) env = some (d, env')) : ∃ x e1 ds, evE F a env = some (x, e1) ∧ evL F es e1 = some (ds, env') ∧ opM m x ds = some d := by
  have h : ((evE F a env).bind fun p => (evL F es p.2).bind fun q => (opM m p.1 q.1).bind fun r => some (r, q.2)) = some (d, env') := by
    rw [← h]
    cases m <;> first | rfl | exact absurd rfl (hm _ _ _) | exact absurd rfl (hm2 _ _ _) | exact absurd rfl (hm3 _ _)
  obtain ⟨⟨x, e1⟩, h1, h⟩ := bind_some h
  obtain ⟨⟨ds, e2⟩, h2, h⟩ := bind_some h
  obtain ⟨r, h3, h⟩ := bind_some h
  cases h
  exact ⟨x, e1, ds, h1, h2, h3⟩
theorem ev_fst {es : Ex} (h : evE F (.fst es) env = some (d, env')) : ∃ ds t, evL F es env = some (ds, env') ∧ catA PySem.Str.empty ds = some t ∧ d = .str t := by
  rw [evE] at h
  obtain ⟨⟨ds, e1⟩, h1, h⟩ := bind_some h
  obtain ⟨t, h2, h⟩ := bind_some h
  cases h
  exact ⟨ds, t, h1, h2, rfl⟩
theorem opM_str {m : Mt} {x : D} {ds : List D} {r : D} (h : opM m x ds = some r) : ∃ a, x = .str a := by
  unfold opM at h
  split at h <;> first | exact ⟨_, rfl⟩ | cases h
def rM (K : PySem.W.Frag) (m : Mt) : V → List V → Hp → VK → Prop := fun x xs H Q => ∃ B d ds r, BL H B ∧ Rep K H B d x ∧ RepL K H B ds xs ∧ opM m d ds = some r ∧ ∀ v H', Al H H' → Rep K H' B r v → Q v H'
theorem mt_of {id : String} {r r' : V → List V → Hp → VK → Prop} (h : MtR X id r) (i : ∀ x xs H Q, r' x xs H Q → r x xs H Q) : MtR X id r' := fun pins s σ H x xs v us Q I rx rs q => h pins s σ H x xs v us Q I rx rs (i x xs H Q q)
theorem repl_strs {K : PySem.W.Frag} {H : Hp} {B : AP'} : ∀ ys : List PySem.Str, RepL K H B (ys.map D.str) (ys.map V.str)
  | [] => rfl
  | y :: ys => ⟨.str y, ys.map V.str, rfl, rfl, repl_strs ys⟩
theorem strs_repl {K : PySem.W.Frag} {H : Hp} {B : AP'} : ∀ {ds : List D} {ys : List PySem.Str} {vs : List V}, strsD ds = some ys → RepL K H B ds vs → vs = ys.map V.str
  | [], ys, vs, h, r => by cases h; exact r
  | .str x :: ds, ys, vs, h, r => by
    have h : (strsD ds).map (x :: ·) = some ys := h
    rw [Option.map_eq_some_iff] at h
    obtain ⟨zs, h1, rfl⟩ := h
    obtain ⟨v, t, rfl, r1, r2⟩ := r
    cases r1
    rw [strs_repl h1 r2]; rfl
  | .non :: _, _, _, h, _ => by cases h
  | .bl _ :: _, _, _, h, _ => by cases h
  | .int _ :: _, _, _, h, _ => by cases h
  | .tup _ :: _, _, _, h, _ => by cases h
  | .lst _ :: _, _, _, h, _ => by cases h
  | .scr _ :: _, _, _, h, _ => by cases h
  | .obj _ _ _ :: _, _, _, h, _ => by cases h
  | .adr _ :: _, _, _, h, _ => by cases h
theorem md_split : MtR X "str.split" (rM X.K .split) := mt_of mt_split fun x xs H Q ⟨B, d, ds, r, bl, rx, rl, e, q⟩ => by
  unfold opM at e; split at e <;> simp only [reduceCtorEq, Option.some.injEq, Option.ite_none_right_eq_some] at *
  obtain ⟨v, rfl, r1⟩ := rl.one; cases r1; cases rx; obtain ⟨⟨e1, e2⟩, rfl⟩ := e
  refine ⟨_, _, rfl, rfl, e1, Nat.le_trans e2 lim_le, fun p hp => q _ _ (Al.new hp) ⟨p, _, rfl, upd_same, fun z => ?_, repl_strs _⟩⟩
  obtain ⟨_, z⟩ := bl _ z; rw [hp] at z; cases z
theorem md_part : MtR X "str.partition" (rM X.K .part) := mt_of mt_partition fun x xs H Q ⟨B, d, ds, r, bl, rx, rl, e, q⟩ => by
  unfold opM at e; split at e <;> simp only [reduceCtorEq, Option.some.injEq, Option.ite_none_right_eq_some] at *
  obtain ⟨v, rfl, r1⟩ := rl.one; cases r1; cases rx; obtain ⟨⟨e1, e2⟩, rfl⟩ := e
  exact ⟨_, _, rfl, rfl, e1, Nat.le_trans e2 lim_le, fun p hp => q _ _ (Al.new hp) ⟨p, _, rfl, .inl (.inl upd_same), ⟨_, _, rfl, rfl, _, _, rfl, rfl, _, _, rfl, rfl, rfl⟩⟩⟩
theorem md_pre : MtR X "str.removeprefix" (rM X.K .pre) := mt_of mt_removeprefix fun x xs H Q ⟨B, d, ds, r, bl, rx, rl, e, q⟩ => by
  unfold opM at e; split at e <;> simp only [reduceCtorEq, Option.some.injEq, Option.ite_none_right_eq_some] at *
  obtain ⟨v, rfl, r1⟩ := rl.one; cases r1; cases rx; obtain ⟨e1, rfl⟩ := e
  exact ⟨_, _, rfl, rfl, Nat.le_trans e1 lim_le, q _ H (Al.refl H) rfl⟩
theorem md_stw : MtR X "str.startswith" (rM X.K .stw) := mt_of mt_startswith fun x xs H Q ⟨B, d, ds, r, bl, rx, rl, e, q⟩ => by
  unfold opM at e; split at e <;> simp only [reduceCtorEq, Option.some.injEq] at *
  obtain ⟨v, rfl, r1⟩ := rl.one; cases r1; cases rx; subst e
  exact ⟨_, _, rfl, rfl, q _ H (Al.refl H) rfl⟩
theorem md_asc : MtR X "str.isascii" (rM X.K .asc) := mt_of mt_isascii fun x xs H Q ⟨B, d, ds, r, bl, rx, rl, e, q⟩ => by
  unfold opM at e; split at e <;> simp only [reduceCtorEq, Option.some.injEq] at *
  cases rl; cases rx; subst e
  exact ⟨_, rfl, rfl, trivial, q _ H (Al.refl H) rfl⟩
theorem md_dig : MtR X "str.isdigit" (rM X.K .dig) := mt_of mt_isdigit fun x xs H Q ⟨B, d, ds, r, bl, rx, rl, e, q⟩ => by
  unfold opM at e; split at e <;> simp only [reduceCtorEq, Option.some.injEq] at *
  cases rl; cases rx; subst e
  exact ⟨_, rfl, rfl, trivial, q _ H (Al.refl H) rfl⟩
theorem md_join : MtR X "str.join" (rM X.K .join) := mt_of mt_join fun x xs H Q ⟨B, d, ds, r, bl, rx, rl, e, q⟩ => by
  unfold opM at e; split at e <;> simp only [reduceCtorEq, Option.some.injEq, Option.bind_eq_some_iff, Option.ite_none_right_eq_some] at *
  · obtain ⟨v, rfl, r1⟩ := rl.one; cases rx; obtain ⟨ys, e1, e2, rfl⟩ := e
    obtain ⟨a, vs, rfl, h1, _, g⟩ := r1
    rw [strs_repl e1 g] at h1
    exact ⟨_, a, ys, rfl, rfl, .inl (.inl (.inl h1)), Nat.le_trans e2 (by decide), q _ H (Al.refl H) rfl⟩
  · obtain ⟨v, rfl, r1⟩ := rl.one; cases rx; obtain ⟨ys, e1, e2, rfl⟩ := e
    obtain ⟨a, vs, rfl, h1, g⟩ := r1
    rw [strs_repl e1 g] at h1
    exact ⟨_, a, ys, rfl, rfl, .inr h1, Nat.le_trans e2 (by decide), q _ H (Al.refl H) rfl⟩
theorem tx_key {m : Mt} {e e1 : Ex} (hK : X.K = C.K) (hm : ∀ c n g, m ≠ .own c n g) (hm2 : ∀ c n g, m ≠ .ownk c n g) (hm3 : ∀ c g, m ≠ .lno c g) {σ : L2.St} {H : Hp} {Q : VK} (h : tE C (.mth m e (.cons e1 .nil)) σ H Q) : tM1 (rM X.K m) (tE C e) (tE C e1) σ H Q := by
  obtain ⟨B, M, env, d, env', s, ev, q⟩ := h
  obtain ⟨x, ea, ds, k1, k2, k3⟩ := ev_tx hm hm2 hm3 ev
  obtain ⟨a, rfl⟩ := opM_str k3
  rw [evL] at k2
  obtain ⟨⟨y, eb⟩, k4, k2⟩ := bind_some k2
  obtain ⟨⟨ys, ec⟩, k5, k2⟩ := bind_some k2
  rw [evL] at k5
  cases k5; cases k2
  refine ⟨B, M, env, _, ea, s, k1, fun v H1 B1 M1 s1 r1 n1 => ⟨⟨a, r1⟩, B1, M1, ea, _, _, s1, k4, fun w H2 B2 M2 s2 r2 n2 => ?_⟩⟩
  rw [hK]
  exact ⟨B2, .str a, [y], d, s2.bl, r1, ⟨w, [], rfl, r2, rfl⟩, k3, fun u H3 a3 r3 => q u H3 B2 M2 (s2.al a3) r3 (n1.trans (n2.trans a3.nx))⟩
theorem tx_key0 {m : Mt} {e : Ex} (hK : X.K = C.K) (hm : ∀ c n g, m ≠ .own c n g) (hm2 : ∀ c n g, m ≠ .ownk c n g) (hm3 : ∀ c g, m ≠ .lno c g) {σ : L2.St} {H : Hp} {Q : VK} (h : tE C (.mth m e .nil) σ H Q) : tM0 (rM X.K m) (tE C e) σ H Q := by
  obtain ⟨B, M, env, d, env', s, ev, q⟩ := h
  obtain ⟨x, ea, ds, k1, k2, k3⟩ := ev_tx hm hm2 hm3 ev
  obtain ⟨a, rfl⟩ := opM_str k3
  rw [evL] at k2
  cases k2
  refine ⟨B, M, env, _, _, s, k1, fun v H1 B1 M1 s1 r1 n1 => ⟨⟨a, r1⟩, ?_⟩⟩
  rw [hK]
  exact ⟨B1, .str a, [], d, s1.bl, r1, rfl, k3, fun u H3 a3 r3 => q u H3 B1 M1 (s1.al a3) r3 (n1.trans a3.nx)⟩
theorem r_tx1 {m : Mt} {e e1 : Ex} {l a : Expr} {x : PySem.Str} {ap cp : Pos} (hK : X.K = C.K) (hx : x = mtN m) (hm : mt1 m = true) (hs : notSup l = true) (hl : (ap.endLine == cp.line) = true) (hn : nst a = true) (h1 : PE X l (tE C e)) (h2 : PE X a (tE C e1)) : PE X (.Call (.Attribute l x ap) [a] [] cp) (tE C (.mth m e (.cons e1 .nil))) := by
  subst hx
  cases m <;> first | (cases hm; done) | skip
  · exact (pe_m1 F.slot_str_split F.type_str_split md_split h1 h2 (star_cons hn) (sup_base hs) hl).imp fun σ H Q h => tx_key hK (by intros; simp) (by intros; simp) (by intros; simp) h
  · exact (pe_m1 F.slot_str_partition F.type_str_partition md_part h1 h2 (star_cons hn) (sup_base hs) hl).imp fun σ H Q h => tx_key hK (by intros; simp) (by intros; simp) (by intros; simp) h
  · exact (pe_m1 F.slot_str_removeprefix F.type_str_removeprefix md_pre h1 h2 (star_cons hn) (sup_base hs) hl).imp fun σ H Q h => tx_key hK (by intros; simp) (by intros; simp) (by intros; simp) h
  · exact (pe_m1 F.slot_str_startswith F.type_str_startswith md_stw h1 h2 (star_cons hn) (sup_base hs) hl).imp fun σ H Q h => tx_key hK (by intros; simp) (by intros; simp) (by intros; simp) h
  · exact (pe_m1 F.slot_str_join F.type_str_join md_join h1 h2 (star_cons hn) (sup_base hs) hl).imp fun σ H Q h => tx_key hK (by intros; simp) (by intros; simp) (by intros; simp) h
theorem r_tx0 {m : Mt} {e : Ex} {l : Expr} {x : PySem.Str} {ap cp : Pos} (hK : X.K = C.K) (hx : x = mtN m) (hm : mt0 m = true) (hs : notSup l = true) (hl : (ap.endLine == cp.line) = true) (h1 : PE X l (tE C e)) : PE X (.Call (.Attribute l x ap) [] [] cp) (tE C (.mth m e .nil)) := by
  subst hx
  cases m <;> first | (cases hm; done) | skip
  · exact (pe_m0 F.slot_str_isascii F.type_str_isascii md_asc h1 (sup_base hs) hl).imp fun σ H Q h => tx_key0 hK (by intros; simp) (by intros; simp) (by intros; simp) h
  · exact (pe_m0 F.slot_str_isdigit F.type_str_isdigit md_dig h1 (sup_base hs) hl).imp fun σ H Q h => tx_key0 hK (by intros; simp) (by intros; simp) (by intros; simp) h
/-! ### f-strings -/
def tJX (C : Ctx) (x : Ex) (acc : PySem.Str) (σ : L2.St) (H : Hp) (Q : PySem.Str → Hp → Prop) : Prop := ∃ B M env ds env' out, Sim C H B M σ env ∧ evL C.F x env = some (ds, env') ∧ catA acc ds = some out ∧ ∀ H' B' M', Sim C H' B' M' σ env' → Nx H B M H' B' M' → Q out H'
theorem j_nil {acc : PySem.Str} {σ : L2.St} {H : Hp} {Q : PySem.Str → Hp → Prop} (h : tJX C .nil acc σ H Q) : tJs [] acc σ H Q := by
  obtain ⟨B, M, env, ds, env', out, s, e, c, q⟩ := h
  rw [evL] at e; cases e; cases c
  exact q H B M s (Nx.refl _ _ _)
theorem evL_consJ {e es : Ex} {ds : List D} (h : evL F (.cons e es) env = some (ds, env')) : ∃ y ea ys, evE F e env = some (y, ea) ∧ evL F es ea = some (ys, env') ∧ ds = y :: ys := by
  rw [evL] at h
  obtain ⟨⟨y, ea⟩, k4, h⟩ := bind_some h
  obtain ⟨⟨ys, ec⟩, k5, h⟩ := bind_some h
  cases h
  exact ⟨y, ea, ys, k4, k5, rfl⟩
theorem j_fmt {e es : Ex} {ts : List TE} (ih : ∀ acc σ H Q, tJX C es acc σ H Q → tJs ts acc σ H Q) {acc : PySem.Str} {σ : L2.St} {H : Hp} {Q : PySem.Str → Hp → Prop} (h : tJX C (.cons e es) acc σ H Q) : tJs (tFmt (tE C e) :: ts) acc σ H Q := by
  obtain ⟨B, M, env, ds, env', out, s, ev, c, q⟩ := h
  obtain ⟨y, ea, ys, k1, k2, rfl⟩ := evL_consJ ev
  refine ⟨B, M, env, y, ea, s, k1, fun v H1 B1 M1 s1 r1 n1 => ?_⟩
  cases y <;> first | (cases c; done) | skip
  · rename_i i
    have c : (if i.natAbs.log2 < 1920 ∧ (acc ++ PySem.Str.ofString (toString i)).length ≤ lim then catA (acc ++ PySem.Str.ofString (toString i)) ys else none) = some out := c
    rw [Option.ite_none_right_eq_some] at c
    cases r1
    exact .inr ⟨i, rfl, c.1.1, _, rfl, Nat.le_trans c.1.2 lim_le, ih _ _ _ _ ⟨B1, M1, ea, ys, env', out, s1, k2, c.2, fun H' B' M' s' n' => q H' B' M' s' (n1.trans n')⟩⟩
  · rename_i x
    have c : (if x.length ≤ lim ∧ (acc ++ x).length ≤ lim then catA (acc ++ x) ys else none) = some out := c
    rw [Option.ite_none_right_eq_some] at c
    cases r1
    exact .inl ⟨x, rfl, Nat.le_trans c.1.1 lim_le, _, rfl, Nat.le_trans c.1.2 lim_le, ih _ _ _ _ ⟨B1, M1, ea, ys, env', out, s1, k2, c.2, fun H' B' M' s' n' => q H' B' M' s' (n1.trans n')⟩⟩
theorem j_con {x : PySem.Str} {es : Ex} {ts : List TE} (ih : ∀ acc σ H Q, tJX C es acc σ H Q → tJs ts acc σ H Q) {acc : PySem.Str} {σ : L2.St} {H : Hp} {Q : PySem.Str → Hp → Prop} (h : tJX C (.cons (.con (.str x)) es) acc σ H Q) : tJs (tC (.str x) :: ts) acc σ H Q := by
  obtain ⟨B, M, env, ds, env', out, s, ev, c, q⟩ := h
  obtain ⟨y, ea, ys, k1, k2, rfl⟩ := evL_consJ ev
  rw [evE] at k1; cases k1
  have c : (if x.length ≤ lim ∧ (acc ++ x).length ≤ lim then catA (acc ++ x) ys else none) = some out := c
  rw [Option.ite_none_right_eq_some] at c
  exact ⟨x, rfl, Nat.le_trans c.1.2 lim_le, ih _ _ _ _ ⟨B, M, env, ys, env', out, s, k2, c.2, q⟩⟩
theorem r_fst {es : Ex} {v1 v2 : Expr} {rest : List Expr} {ts : List TE} {pos : Pos} (hj : PJ X (v1 :: v2 :: rest) ts) (hi : ∀ acc σ H Q, tJX C es acc σ H Q → tJs ts acc σ H Q) : PE X (.JoinedStr (v1 :: v2 :: rest) pos) (tE C (.fst es)) :=
  (pe_joined hj).imp fun σ H Q h => by
    obtain ⟨B, M, env, d, env', s, ev, q⟩ := h
    obtain ⟨ds, t, k1, k2, rfl⟩ := ev_fst ev
    exact hi _ _ _ _ ⟨B, M, env, ds, env', t, s, k1, k2, fun H' B' M' s' n' => q (.str t) H' B' M' s' rfl n'⟩
end Mn

namespace Mn
open PySem L2 RZ
variable {C : Ctx} {X : Cx} {F : FT} {env env' : Env} {d : D} {G : GS} {lv : Nat} {N : List PySem.Str} {sc : Scope}

theorem putBack_len : ∀ {is : List Nat} {outs : List (List D)} {env env' : Env}, putBack is outs env = some env' → env'.length = env.length
  | [], [], _, _, h => by cases h; rfl
  | [], _ :: _, _, _, h => by cases h
  | _ :: _, [], _, _, h => by cases h
  | i :: is, xs :: r, env, env', h => by
    have h' : putBack is r (setM env i xs) = some env' := h
    rw [putBack_len h', setM_len]
structure LenA (F : FT) (x : Ex) : Prop where
  e : ∀ env d env', evE F x env = some (d, env') → env'.length = env.length
  t : ∀ env d env', evT F x env = some (d, env') → env'.length = env.length
  l : ∀ env d env', evL F x env = some (d, env') → env'.length = env.length
  a : ∀ env d env', evA F x env = some (d, env') → env'.length = env.length
  o : ∀ env d env', evO F x env = some (d, env') → env'.length = env.length
  r : ∀ env d env', evAr F x env = some (d, env') → env'.length = env.length
theorem compL_len {el : Env → Option (D × Env)} {cd : Env → Option (Bool × Env)} {tg : Tg} {own : List Nat} (h1 : ∀ env d env', el env = some (d, env') → env'.length = env.length) (h2 : ∀ env d env', cd env = some (d, env') → env'.length = env.length) :
    ∀ {xs ds : List D} {env env' : Env}, compL el cd tg own xs env = some (ds, env') → env'.length = env.length
  | [], ds, env, env', h => by cases h; rfl
  | x :: xs, ds, env, env', h => by
    obtain ⟨e1, b, e2, k1, k2, k3⟩ := compL_cons h
    have l1 := bind_len k1
    rw [wipeE_len] at l1
    have l2 := h2 _ _ _ k2
    cases b with
    | true =>
      obtain ⟨y, e3, r, k4, k5, _⟩ := k3
      have := compL_len h1 h2 k5
      rw [this, backE_len, h1 _ _ _ k4, l2, l1]
    | false =>
      have := compL_len h1 h2 k3
      rw [this, backE_len, l2, l1]
theorem len_all (F : FT) : ∀ x : Ex, LenA F x := by
  intro x
  induction x with
  | var i =>
    refine ⟨?_, ?_, ?_, ?_, ?_, ?_⟩
    · intro env d env' h; rw [evE] at h; split at h <;> first | (cases h; done) | (cases h; simp)
    · (intro env d env' h; rw [evT] at h <;> first | (cases h; done) | (intros; contradiction))
    · (intro env d env' h; rw [evL] at h <;> first | (cases h; done) | (intros; contradiction))
    · (intro env d env' h; rw [evA] at h <;> first | (cases h; done) | (intros; contradiction))
    · (intro env d env' h; rw [evO] at h <;> first | (cases h; done) | (intros; contradiction))
    · (intro env d env' h; rw [evAr] at h <;> first | (cases h; done) | (intros; contradiction))
  | con d =>
    refine ⟨?_, ?_, ?_, ?_, ?_, ?_⟩
    · intro env d env' h; rw [evE] at h; first | (cases h; rfl) | (obtain ⟨x, h1, h⟩ := bind_some h; cases h; rfl)
    · (intro env d env' h; rw [evT] at h <;> first | (cases h; done) | (intros; contradiction))
    · (intro env d env' h; rw [evL] at h <;> first | (cases h; done) | (intros; contradiction))
    · (intro env d env' h; rw [evA] at h <;> first | (cases h; done) | (intros; contradiction))
    · (intro env d env' h; rw [evO] at h <;> first | (cases h; done) | (intros; contradiction))
    · (intro env d env' h; rw [evAr] at h <;> first | (cases h; done) | (intros; contradiction))
  | glo x =>
    refine ⟨?_, ?_, ?_, ?_, ?_, ?_⟩
    · intro env d env' h; rw [evE] at h; first | (cases h; rfl) | (obtain ⟨x, h1, h⟩ := bind_some h; cases h; rfl)
    · (intro env d env' h; rw [evT] at h <;> first | (cases h; done) | (intros; contradiction))
    · (intro env d env' h; rw [evL] at h <;> first | (cases h; done) | (intros; contradiction))
    · (intro env d env' h; rw [evA] at h <;> first | (cases h; done) | (intros; contradiction))
    · (intro env d env' h; rw [evO] at h <;> first | (cases h; done) | (intros; contradiction))
    · (intro env d env' h; rw [evAr] at h <;> first | (cases h; done) | (intros; contradiction))
  | ixv i e ih =>
    refine ⟨?_, ?_, ?_, ?_, ?_, ?_⟩
    · intro env d env' h; obtain ⟨k, x, y, _, h1, _⟩ := ev_ixv h; exact ih.e _ _ _ h1
    · (intro env d env' h; rw [evT] at h <;> first | (cases h; done) | (intros; contradiction))
    · (intro env d env' h; rw [evL] at h <;> first | (cases h; done) | (intros; contradiction))
    · (intro env d env' h; rw [evA] at h <;> first | (cases h; done) | (intros; contradiction))
    · (intro env d env' h; rw [evO] at h <;> first | (cases h; done) | (intros; contradiction))
    · (intro env d env' h; rw [evAr] at h <;> first | (cases h; done) | (intros; contradiction))
  | lenv i =>
    refine ⟨?_, ?_, ?_, ?_, ?_, ?_⟩
    · intro env d env' h; obtain ⟨x, _, _, h3⟩ := ev_lenv h; rw [h3]
    · (intro env d env' h; rw [evT] at h <;> first | (cases h; done) | (intros; contradiction))
    · (intro env d env' h; rw [evL] at h <;> first | (cases h; done) | (intros; contradiction))
    · (intro env d env' h; rw [evA] at h <;> first | (cases h; done) | (intros; contradiction))
    · (intro env d env' h; rw [evO] at h <;> first | (cases h; done) | (intros; contradiction))
    · (intro env d env' h; rw [evAr] at h <;> first | (cases h; done) | (intros; contradiction))
  | calln f g es ih =>
    refine ⟨?_, ?_, ?_, ?_, ?_, ?_⟩
    · intro env d env' h; obtain ⟨ds, xs, ys, h1, _⟩ := ev_calln h; exact ih.l _ _ _ h1
    · (intro env d env' h; rw [evT] at h <;> first | (cases h; done) | (intros; contradiction))
    · (intro env d env' h; rw [evL] at h <;> first | (cases h; done) | (intros; contradiction))
    · (intro env d env' h; rw [evA] at h <;> first | (cases h; done) | (intros; contradiction))
    · (intro env d env' h; rw [evO] at h <;> first | (cases h; done) | (intros; contradiction))
    · (intro env d env' h; rw [evAr] at h <;> first | (cases h; done) | (intros; contradiction))
  | lrng a ih =>
    refine ⟨?_, ?_, ?_, ?_, ?_, ?_⟩
    · intro env d env' h; obtain ⟨n, h1, _⟩ := ev_lrng h; exact ih.e _ _ _ h1
    · (intro env d env' h; rw [evT] at h <;> first | (cases h; done) | (intros; contradiction))
    · (intro env d env' h; rw [evL] at h <;> first | (cases h; done) | (intros; contradiction))
    · (intro env d env' h; rw [evA] at h <;> first | (cases h; done) | (intros; contradiction))
    · (intro env d env' h; rw [evO] at h <;> first | (cases h; done) | (intros; contradiction))
    · (intro env d env' h; rw [evAr] at h <;> first | (cases h; done) | (intros; contradiction))
  | bin o a b iha ihb =>
    refine ⟨?_, ?_, ?_, ?_, ?_, ?_⟩
    · intro env d env' h; obtain ⟨x, e1, y, h1, h2, _⟩ := ev_bin h; rw [ihb.e _ _ _ h2, iha.e _ _ _ h1]
    · (intro env d env' h; rw [evT] at h <;> first | (cases h; done) | (intros; contradiction))
    · (intro env d env' h; rw [evL] at h <;> first | (cases h; done) | (intros; contradiction))
    · (intro env d env' h; rw [evA] at h <;> first | (cases h; done) | (intros; contradiction))
    · (intro env d env' h; rw [evO] at h <;> first | (cases h; done) | (intros; contradiction))
    · (intro env d env' h; rw [evAr] at h <;> first | (cases h; done) | (intros; contradiction))
  | neg a ih =>
    refine ⟨?_, ?_, ?_, ?_, ?_, ?_⟩
    · intro env d env' h; obtain ⟨i, h1, _⟩ := ev_neg h; exact ih.e _ _ _ h1
    · (intro env d env' h; rw [evT] at h <;> first | (cases h; done) | (intros; contradiction))
    · (intro env d env' h; rw [evL] at h <;> first | (cases h; done) | (intros; contradiction))
    · (intro env d env' h; rw [evA] at h <;> first | (cases h; done) | (intros; contradiction))
    · (intro env d env' h; rw [evO] at h <;> first | (cases h; done) | (intros; contradiction))
    · (intro env d env' h; rw [evAr] at h <;> first | (cases h; done) | (intros; contradiction))
  | cmp o a b iha ihb =>
    refine ⟨?_, ?_, ?_, ?_, ?_, ?_⟩
    · intro env d env' h; obtain ⟨x, e1, y, r, h1, h2, _⟩ := ev_cmp h; rw [ihb.e _ _ _ h2, iha.e _ _ _ h1]
    · (intro env d env' h; rw [evT] at h <;> first | (cases h; done) | (intros; contradiction))
    · (intro env d env' h; rw [evL] at h <;> first | (cases h; done) | (intros; contradiction))
    · (intro env d env' h; rw [evA] at h <;> first | (cases h; done) | (intros; contradiction))
    · (intro env d env' h; rw [evO] at h <;> first | (cases h; done) | (intros; contradiction))
    · (intro env d env' h; rw [evAr] at h <;> first | (cases h; done) | (intros; contradiction))
  | vand a b iha ihb =>
    refine ⟨?_, ?_, ?_, ?_, ?_, ?_⟩
    · intro env d env' h; obtain ⟨k, e1, h1, h2⟩ := ev_vand h; cases k with | true => rw [ihb.e _ _ _ h2, iha.e _ _ _ h1] | false => obtain ⟨_, h3⟩ := h2; rw [h3, iha.e _ _ _ h1]
    · (intro env d env' h; rw [evT] at h <;> first | (cases h; done) | (intros; contradiction))
    · (intro env d env' h; rw [evL] at h <;> first | (cases h; done) | (intros; contradiction))
    · (intro env d env' h; rw [evA] at h <;> first | (cases h; done) | (intros; contradiction))
    · (intro env d env' h; rw [evO] at h <;> first | (cases h; done) | (intros; contradiction))
    · (intro env d env' h; rw [evAr] at h <;> first | (cases h; done) | (intros; contradiction))
  | vor a b iha ihb =>
    refine ⟨?_, ?_, ?_, ?_, ?_, ?_⟩
    · intro env d env' h; obtain ⟨k, e1, h1, h2⟩ := ev_vor h; cases k with | false => rw [ihb.e _ _ _ h2, iha.e _ _ _ h1] | true => obtain ⟨_, h3⟩ := h2; rw [h3, iha.e _ _ _ h1]
    · (intro env d env' h; rw [evT] at h <;> first | (cases h; done) | (intros; contradiction))
    · (intro env d env' h; rw [evL] at h <;> first | (cases h; done) | (intros; contradiction))
    · (intro env d env' h; rw [evA] at h <;> first | (cases h; done) | (intros; contradiction))
    · (intro env d env' h; rw [evO] at h <;> first | (cases h; done) | (intros; contradiction))
    · (intro env d env' h; rw [evAr] at h <;> first | (cases h; done) | (intros; contradiction))
  | vnot a ih =>
    refine ⟨?_, ?_, ?_, ?_, ?_, ?_⟩
    · intro env d env' h; obtain ⟨i, h1, _⟩ := ev_vnot h; exact ih.e _ _ _ h1
    · (intro env d env' h; rw [evT] at h <;> first | (cases h; done) | (intros; contradiction))
    · (intro env d env' h; rw [evL] at h <;> first | (cases h; done) | (intros; contradiction))
    · (intro env d env' h; rw [evA] at h <;> first | (cases h; done) | (intros; contradiction))
    · (intro env d env' h; rw [evO] at h <;> first | (cases h; done) | (intros; contradiction))
    · (intro env d env' h; rw [evAr] at h <;> first | (cases h; done) | (intros; contradiction))
  | tand a b iha ihb =>
    refine ⟨?_, ?_, ?_, ?_, ?_, ?_⟩
    · (intro env d env' h; rw [evE] at h <;> first | (cases h; done) | (intros; contradiction))
    · intro env d env' h; obtain ⟨k, e1, h1, h2⟩ := ev_tand h; cases k with | true => rw [ihb.t _ _ _ h2, iha.t _ _ _ h1] | false => obtain ⟨_, h3⟩ := h2; rw [h3, iha.t _ _ _ h1]
    · (intro env d env' h; rw [evL] at h <;> first | (cases h; done) | (intros; contradiction))
    · (intro env d env' h; rw [evA] at h <;> first | (cases h; done) | (intros; contradiction))
    · (intro env d env' h; rw [evO] at h <;> first | (cases h; done) | (intros; contradiction))
    · (intro env d env' h; rw [evAr] at h <;> first | (cases h; done) | (intros; contradiction))
  | tor a b iha ihb =>
    refine ⟨?_, ?_, ?_, ?_, ?_, ?_⟩
    · (intro env d env' h; rw [evE] at h <;> first | (cases h; done) | (intros; contradiction))
    · intro env d env' h; obtain ⟨k, e1, h1, h2⟩ := ev_tor h; cases k with | false => rw [ihb.t _ _ _ h2, iha.t _ _ _ h1] | true => obtain ⟨_, h3⟩ := h2; rw [h3, iha.t _ _ _ h1]
    · (intro env d env' h; rw [evL] at h <;> first | (cases h; done) | (intros; contradiction))
    · (intro env d env' h; rw [evA] at h <;> first | (cases h; done) | (intros; contradiction))
    · (intro env d env' h; rw [evO] at h <;> first | (cases h; done) | (intros; contradiction))
    · (intro env d env' h; rw [evAr] at h <;> first | (cases h; done) | (intros; contradiction))
  | tnot a ih =>
    refine ⟨?_, ?_, ?_, ?_, ?_, ?_⟩
    · (intro env d env' h; rw [evE] at h <;> first | (cases h; done) | (intros; contradiction))
    · intro env d env' h; obtain ⟨i, h1, _⟩ := ev_tnot h; exact ih.t _ _ _ h1
    · (intro env d env' h; rw [evL] at h <;> first | (cases h; done) | (intros; contradiction))
    · (intro env d env' h; rw [evA] at h <;> first | (cases h; done) | (intros; contradiction))
    · (intro env d env' h; rw [evO] at h <;> first | (cases h; done) | (intros; contradiction))
    · (intro env d env' h; rw [evAr] at h <;> first | (cases h; done) | (intros; contradiction))
  | tvar i =>
    refine ⟨?_, ?_, ?_, ?_, ?_, ?_⟩
    · (intro env d env' h; rw [evE] at h <;> first | (cases h; done) | (intros; contradiction))
    · intro env d env' h; obtain ⟨x, _, _, h3⟩ := ev_tvar h; rw [h3]
    · (intro env d env' h; rw [evL] at h <;> first | (cases h; done) | (intros; contradiction))
    · (intro env d env' h; rw [evA] at h <;> first | (cases h; done) | (intros; contradiction))
    · (intro env d env' h; rw [evO] at h <;> first | (cases h; done) | (intros; contradiction))
    · (intro env d env' h; rw [evAr] at h <;> first | (cases h; done) | (intros; contradiction))
  | tval a ih =>
    refine ⟨?_, ?_, ?_, ?_, ?_, ?_⟩
    · (intro env d env' h; rw [evE] at h <;> first | (cases h; done) | (intros; contradiction))
    · intro env d env' h; obtain ⟨x, h1, _⟩ := ev_tval h; exact ih.e _ _ _ h1
    · (intro env d env' h; rw [evL] at h <;> first | (cases h; done) | (intros; contradiction))
    · (intro env d env' h; rw [evA] at h <;> first | (cases h; done) | (intros; contradiction))
    · intro env d env' h; rw [evO] at h; obtain ⟨⟨x, e1⟩, h1, h⟩ := bind_some h; cases x <;> first | (cases h; done) | (cases h; exact ih.e _ _ _ h1)
    · intro env d env' h; rw [evAr] at h; obtain ⟨⟨x, e1⟩, h1, h⟩ := bind_some h; cases h; exact ih.e _ _ _ h1
  | tyes =>
    refine ⟨?_, ?_, ?_, ?_, ?_, ?_⟩
    · (intro env d env' h; rw [evE] at h <;> first | (cases h; done) | (intros; contradiction))
    · intro env d env' h; rw [evT] at h; cases h; rfl
    · (intro env d env' h; rw [evL] at h <;> first | (cases h; done) | (intros; contradiction))
    · (intro env d env' h; rw [evA] at h <;> first | (cases h; done) | (intros; contradiction))
    · (intro env d env' h; rw [evO] at h <;> first | (cases h; done) | (intros; contradiction))
    · (intro env d env' h; rw [evAr] at h <;> first | (cases h; done) | (intros; contradiction))
  | ite c a b ihc iha ihb =>
    refine ⟨?_, ?_, ?_, ?_, ?_, ?_⟩
    · intro env d env' h; obtain ⟨k, e1, h1, h2⟩ := ev_ite h; cases k with | true => rw [iha.e _ _ _ h2, ihc.t _ _ _ h1] | false => rw [ihb.e _ _ _ h2, ihc.t _ _ _ h1]
    · (intro env d env' h; rw [evT] at h <;> first | (cases h; done) | (intros; contradiction))
    · (intro env d env' h; rw [evL] at h <;> first | (cases h; done) | (intros; contradiction))
    · (intro env d env' h; rw [evA] at h <;> first | (cases h; done) | (intros; contradiction))
    · (intro env d env' h; rw [evO] at h <;> first | (cases h; done) | (intros; contradiction))
    · (intro env d env' h; rw [evAr] at h <;> first | (cases h; done) | (intros; contradiction))
  | tup es ih =>
    refine ⟨?_, ?_, ?_, ?_, ?_, ?_⟩
    · intro env d env' h; obtain ⟨xs, h1, _⟩ := ev_tup h; exact ih.l _ _ _ h1
    · (intro env d env' h; rw [evT] at h <;> first | (cases h; done) | (intros; contradiction))
    · (intro env d env' h; rw [evL] at h <;> first | (cases h; done) | (intros; contradiction))
    · (intro env d env' h; rw [evA] at h <;> first | (cases h; done) | (intros; contradiction))
    · (intro env d env' h; rw [evO] at h <;> first | (cases h; done) | (intros; contradiction))
    · (intro env d env' h; rw [evAr] at h <;> first | (cases h; done) | (intros; contradiction))
  | lst es ih =>
    refine ⟨?_, ?_, ?_, ?_, ?_, ?_⟩
    · intro env d env' h; obtain ⟨xs, h1, _⟩ := ev_lst h; exact ih.l _ _ _ h1
    · (intro env d env' h; rw [evT] at h <;> first | (cases h; done) | (intros; contradiction))
    · (intro env d env' h; rw [evL] at h <;> first | (cases h; done) | (intros; contradiction))
    · (intro env d env' h; rw [evA] at h <;> first | (cases h; done) | (intros; contradiction))
    · (intro env d env' h; rw [evO] at h <;> first | (cases h; done) | (intros; contradiction))
    · (intro env d env' h; rw [evAr] at h <;> first | (cases h; done) | (intros; contradiction))
  | nil =>
    refine ⟨?_, ?_, ?_, ?_, ?_, ?_⟩
    · (intro env d env' h; rw [evE] at h <;> first | (cases h; done) | (intros; contradiction))
    · (intro env d env' h; rw [evT] at h <;> first | (cases h; done) | (intros; contradiction))
    · intro env d env' h; rw [evL] at h; cases h; rfl
    · intro env d env' h; rw [evA] at h; cases h; rfl
    · intro env d env' h; rw [evO] at h; cases h; rfl
    · (intro env d env' h; rw [evAr] at h <;> first | (cases h; done) | (intros; contradiction))
  | cons e es ihe ihs =>
    refine ⟨?_, ?_, ?_, ?_, ?_, ?_⟩
    · (intro env d env' h; rw [evE] at h <;> first | (cases h; done) | (intros; contradiction))
    · (intro env d env' h; rw [evT] at h <;> first | (cases h; done) | (intros; contradiction))
    · intro env d env' h; obtain ⟨x, e1, xs, h1, h2, _⟩ := ev_cons h; rw [ihs.l _ _ _ h2, ihe.e _ _ _ h1]
    · intro env d env' h; obtain ⟨x, e1, xs, h1, h2, _⟩ := ev_acons h; rw [ihs.a _ _ _ h2, ihe.r _ _ _ h1]
    · (intro env d env' h; rw [evO] at h <;> first | (cases h; done) | (intros; contradiction))
    · (intro env d env' h; rw [evAr] at h <;> first | (cases h; done) | (intros; contradiction))
  | ref i =>
    refine ⟨?_, ?_, ?_, ?_, ?_, ?_⟩
    · (intro env d env' h; rw [evE] at h <;> first | (cases h; done) | (intros; contradiction))
    · (intro env d env' h; rw [evT] at h <;> first | (cases h; done) | (intros; contradiction))
    · (intro env d env' h; rw [evL] at h <;> first | (cases h; done) | (intros; contradiction))
    · (intro env d env' h; rw [evA] at h <;> first | (cases h; done) | (intros; contradiction))
    · (intro env d env' h; rw [evO] at h <;> first | (cases h; done) | (intros; contradiction))
    · intro env d env' h; rw [evAr] at h; obtain ⟨x, h1, h⟩ := bind_some h; cases h; rfl
  | ix a i iha ihb =>
    refine ⟨?_, ?_, ?_, ?_, ?_, ?_⟩
    · intro env d env' h; obtain ⟨x, e1, y, h1, h2, _⟩ := ev_ix h; rw [ihb.e _ _ _ h2, iha.e _ _ _ h1]
    · (intro env d env' h; rw [evT] at h <;> first | (cases h; done) | (intros; contradiction))
    · (intro env d env' h; rw [evL] at h <;> first | (cases h; done) | (intros; contradiction))
    · (intro env d env' h; rw [evA] at h <;> first | (cases h; done) | (intros; contradiction))
    · (intro env d env' h; rw [evO] at h <;> first | (cases h; done) | (intros; contradiction))
    · (intro env d env' h; rw [evAr] at h <;> first | (cases h; done) | (intros; contradiction))
  | slc a lo hi iha ihb ihc =>
    refine ⟨?_, ?_, ?_, ?_, ?_, ?_⟩
    · intro env d env' h; obtain ⟨x, e1, l, e2, u, h1, h2, h3, _⟩ := ev_slc h; rw [ihc.o _ _ _ h3, ihb.o _ _ _ h2, iha.e _ _ _ h1]
    · (intro env d env' h; rw [evT] at h <;> first | (cases h; done) | (intros; contradiction))
    · (intro env d env' h; rw [evL] at h <;> first | (cases h; done) | (intros; contradiction))
    · (intro env d env' h; rw [evA] at h <;> first | (cases h; done) | (intros; contradiction))
    · (intro env d env' h; rw [evO] at h <;> first | (cases h; done) | (intros; contradiction))
    · (intro env d env' h; rw [evAr] at h <;> first | (cases h; done) | (intros; contradiction))
  | rev a ih =>
    refine ⟨?_, ?_, ?_, ?_, ?_, ?_⟩
    · intro env d env' h; obtain ⟨xs, h1, _⟩ := ev_rev h; exact ih.e _ _ _ h1
    · (intro env d env' h; rw [evT] at h <;> first | (cases h; done) | (intros; contradiction))
    · (intro env d env' h; rw [evL] at h <;> first | (cases h; done) | (intros; contradiction))
    · (intro env d env' h; rw [evA] at h <;> first | (cases h; done) | (intros; contradiction))
    · (intro env d env' h; rw [evO] at h <;> first | (cases h; done) | (intros; contradiction))
    · (intro env d env' h; rw [evAr] at h <;> first | (cases h; done) | (intros; contradiction))
  | call f pm es ih =>
    refine ⟨?_, ?_, ?_, ?_, ?_, ?_⟩
    · intro env d env' h; obtain ⟨as, e1, bs, ss, outs, h1, _, _, _, _, h6⟩ := ev_call h; rw [putBack_len h6, ih.a _ _ _ h1]
    · (intro env d env' h; rw [evT] at h <;> first | (cases h; done) | (intros; contradiction))
    · (intro env d env' h; rw [evL] at h <;> first | (cases h; done) | (intros; contradiction))
    · (intro env d env' h; rw [evA] at h <;> first | (cases h; done) | (intros; contradiction))
    · (intro env d env' h; rw [evO] at h <;> first | (cases h; done) | (intros; contradiction))
    · (intro env d env' h; rw [evAr] at h <;> first | (cases h; done) | (intros; contradiction))
  | blt f es ih =>
    refine ⟨?_, ?_, ?_, ?_, ?_, ?_⟩
    · intro env d env' h; obtain ⟨xs, h1, _⟩ := ev_blt h; exact ih.l _ _ _ h1
    · (intro env d env' h; rw [evT] at h <;> first | (cases h; done) | (intros; contradiction))
    · (intro env d env' h; rw [evL] at h <;> first | (cases h; done) | (intros; contradiction))
    · (intro env d env' h; rw [evA] at h <;> first | (cases h; done) | (intros; contradiction))
    · (intro env d env' h; rw [evO] at h <;> first | (cases h; done) | (intros; contradiction))
    · (intro env d env' h; rw [evAr] at h <;> first | (cases h; done) | (intros; contradiction))
  | comp w src tg cd el own ihs ihc ihe =>
    refine ⟨?_, ?_, ?_, ?_, ?_, ?_⟩
    · intro env d env' h; obtain ⟨xs, e1, its, ds, h1, _, _, _, h4, _⟩ := ev_comp h; rw [compL_len ihe.e ihc.t h4, ihs.l _ _ _ h1]
    · (intro env d env' h; rw [evT] at h <;> first | (cases h; done) | (intros; contradiction))
    · (intro env d env' h; rw [evL] at h <;> first | (cases h; done) | (intros; contradiction))
    · (intro env d env' h; rw [evA] at h <;> first | (cases h; done) | (intros; contradiction))
    · (intro env d env' h; rw [evO] at h <;> first | (cases h; done) | (intros; contradiction))
    · (intro env d env' h; rw [evAr] at h <;> first | (cases h; done) | (intros; contradiction))
  | att cs e f ih =>
    refine ⟨?_, ?_, ?_, ?_, ?_, ?_⟩
    · intro env d env' h; obtain ⟨c, ks, xs, h1, _⟩ := ev_att h; exact ih.e _ _ _ h1
    · (intro env d env' h; rw [evT] at h <;> first | (cases h; done) | (intros; contradiction))
    · (intro env d env' h; rw [evL] at h <;> first | (cases h; done) | (intros; contradiction))
    · (intro env d env' h; rw [evA] at h <;> first | (cases h; done) | (intros; contradiction))
    · (intro env d env' h; rw [evO] at h <;> first | (cases h; done) | (intros; contradiction))
    · (intro env d env' h; rw [evAr] at h <;> first | (cases h; done) | (intros; contradiction))
  | sg f =>
    refine ⟨?_, ?_, ?_, ?_, ?_, ?_⟩
    · intro env d env' h; obtain ⟨o, _, _, rfl⟩ := ev_sg h; rfl
    · (intro env d env' h; rw [evT] at h <;> first | (cases h; done) | (intros; contradiction))
    · (intro env d env' h; rw [evL] at h <;> first | (cases h; done) | (intros; contradiction))
    · (intro env d env' h; rw [evA] at h <;> first | (cases h; done) | (intros; contradiction))
    · (intro env d env' h; rw [evO] at h <;> first | (cases h; done) | (intros; contradiction))
    · (intro env d env' h; rw [evAr] at h <;> first | (cases h; done) | (intros; contradiction))
  | mk c es ih =>
    refine ⟨?_, ?_, ?_, ?_, ?_, ?_⟩
    · intro env d env' h; obtain ⟨ds, ks, xs, h1, _⟩ := ev_mk h; exact ih.l _ _ _ h1
    · (intro env d env' h; rw [evT] at h <;> first | (cases h; done) | (intros; contradiction))
    · (intro env d env' h; rw [evL] at h <;> first | (cases h; done) | (intros; contradiction))
    · (intro env d env' h; rw [evA] at h <;> first | (cases h; done) | (intros; contradiction))
    · (intro env d env' h; rw [evO] at h <;> first | (cases h; done) | (intros; contradiction))
    · (intro env d env' h; rw [evAr] at h <;> first | (cases h; done) | (intros; contradiction))
  | mth m e es ihe ihs =>
    refine ⟨?_, ?_, ?_, ?_, ?_, ?_⟩
    · intro env d env' h
      cases m with
      | own c m g => obtain ⟨ks, xs, e1, ds, h1, h2, _⟩ := ev_mth h; rw [ihs.l _ _ _ h2, ihe.e _ _ _ h1]
      | ownk c m g => obtain ⟨ks, xs, e1, as, ss, h1, h2, _⟩ := ev_mthk h; rw [ihs.a _ _ _ h2, ihe.e _ _ _ h1]
      | lno c g => obtain ⟨ks, xs, n, h1, _⟩ := ev_lno h; exact ihe.e _ _ _ h1
      | _ => obtain ⟨x, e1, ds, h1, h2, _⟩ := ev_tx (by intros; simp) (by intros; simp) (by intros; simp) h; rw [ihs.l _ _ _ h2, ihe.e _ _ _ h1]
    · (intro env d env' h; rw [evT] at h <;> first | (cases h; done) | (intros; contradiction))
    · (intro env d env' h; rw [evL] at h <;> first | (cases h; done) | (intros; contradiction))
    · (intro env d env' h; rw [evA] at h <;> first | (cases h; done) | (intros; contradiction))
    · (intro env d env' h; rw [evO] at h <;> first | (cases h; done) | (intros; contradiction))
    · (intro env d env' h; rw [evAr] at h <;> first | (cases h; done) | (intros; contradiction))
  | fst es ih =>
    refine ⟨?_, ?_, ?_, ?_, ?_, ?_⟩
    · intro env d env' h; obtain ⟨ds, t, h1, _⟩ := ev_fst h; exact ih.l _ _ _ h1
    · (intro env d env' h; rw [evT] at h <;> first | (cases h; done) | (intros; contradiction))
    · (intro env d env' h; rw [evL] at h <;> first | (cases h; done) | (intros; contradiction))
    · (intro env d env' h; rw [evA] at h <;> first | (cases h; done) | (intros; contradiction))
    · (intro env d env' h; rw [evO] at h <;> first | (cases h; done) | (intros; contradiction))
    · (intro env d env' h; rw [evAr] at h <;> first | (cases h; done) | (intros; contradiction))
  | opq =>
    refine ⟨?_, ?_, ?_, ?_, ?_, ?_⟩
    · (intro env d env' h; rw [evE] at h <;> first | (cases h; done) | (intros; contradiction))
    · (intro env d env' h; rw [evT] at h <;> first | (cases h; done) | (intros; contradiction))
    · (intro env d env' h; rw [evL] at h <;> first | (cases h; done) | (intros; contradiction))
    · (intro env d env' h; rw [evA] at h <;> first | (cases h; done) | (intros; contradiction))
    · (intro env d env' h; rw [evO] at h <;> first | (cases h; done) | (intros; contradiction))
    · (intro env d env' h; rw [evAr] at h <;> first | (cases h; done) | (intros; contradiction))
theorem len_E (F : FT) (x : Ex) : LenE F x := ⟨(len_all F x).e, (len_all F x).t⟩
end Mn

namespace Mn
open PySem L2 RZ
variable {C : Ctx} {X : Cx} {F : FT} {env env' : Env} {d : D} {G : GS} {lv : Nat} {N : List PySem.Str} {sc : Scope}

theorem folded {e : Expr} {env : PySem.Env} (h : notSet e = true) (v : Value) : foldedSetIterable e env v = pure v := by cases e <;> first | rfl | cases h
theorem blk_of (x : XOk X C G lv N sc) {scope : Scope} {own : List (PySem.Str × Nat)} (h : blkC N sc scope own = true) : BlkOk X.N X.env.scope scope own := by
  have b := blkOk_by h
  exact ⟨b.kind, b.uniq, by rw [x.n]; exact b.ix, fun y hy e => x.cf _ (b.free y hy e), by rw [x.n]; exact b.own⟩
theorem r_glo (x : XOk X C G lv N sc) {y : PySem.Str} {p : Pos} (hg : Gl X y) (hd : (y == ("__debug__" : PySem.Str)) = false) (hc : y ∈ G.co) : PE X (.Name y p) (tE C (.glo y)) := by
  refine ⟨fun pins s σ H Q I h => ?_⟩
  obtain ⟨B, M, env, d, env', s', e, q⟩ := h
  rw [evE] at e
  obtain ⟨⟨d', o⟩, h1, h⟩ := bind_some e
  cases h
  obtain ⟨v, u, h2, h3, h4⟩ := x.co y hc _ _ h1
  exact ld_glob I hg h2 ⟨v, H, I, h3, q v H B M s' (x.K ▸ h4 _ _) (Nx.refl _ _ _)⟩ hd
theorem ckA_len : ∀ {x : Ex} {xs : List Expr} {env : Env} {as : List Ar} {env' : Env}, ckA G N sc x xs = true → evA F x env = some (as, env') → as.length = xs.length := by
  intro x
  induction x with
  | nil => intro xs env as env' h e; rw [evA] at e; cases e; cases xs with
    | nil => rfl
    | cons _ _ => rw [ckA] at h <;> first | cases h | (intros; contradiction)
  | cons e es ihe ihs =>
    intro xs env as env' h ev
    cases xs with
    | nil => rw [ckA] at h <;> first | cases h | (intros; contradiction)
    | cons y ys =>
      rw [ckA] at h
      simp only [Bool.and_eq_true] at h
      obtain ⟨x, e1, r, h1, h2, rfl⟩ := ev_acons ev
      simp [ihs h.2 h2]
  | _ => intro xs env as env' h; rw [ckA] at h <;> first | cases h | (intros; contradiction)
theorem ckL_len : ∀ {x : Ex} {xs : List Expr} {env : Env} {as : List D} {env' : Env}, ckL G N sc x xs = true → evL F x env = some (as, env') → as.length = xs.length := by
  intro x
  induction x with
  | nil => intro xs env as env' h e; rw [evL] at e; cases e; cases xs with
    | nil => rfl
    | cons _ _ => rw [ckL] at h <;> first | cases h | (intros; contradiction)
  | cons e es ihe ihs =>
    intro xs env as env' h ev
    cases xs with
    | nil => rw [ckL] at h <;> first | cases h | (intros; contradiction)
    | cons y ys =>
      rw [ckL] at h
      simp only [Bool.and_eq_true] at h
      obtain ⟨x, e1, r, h1, h2, rfl⟩ := ev_cons ev
      simp [ihs h.2 h2]
  | _ => intro xs env as env' h; rw [ckL] at h <;> first | cases h | (intros; contradiction)
theorem ckA_nst : ∀ {x : Ex} {xs : List Expr}, ckA G N sc x xs = true → xs.all nst = true := by
  intro x
  induction x with
  | nil => intro xs h; cases xs with
    | nil => rfl
    | cons _ _ => rw [ckA] at h <;> first | cases h | (intros; contradiction)
  | cons e es ihe ihs =>
    intro xs h
    cases xs with
    | nil => rfl
    | cons y ys =>
      rw [ckA] at h
      simp only [Bool.and_eq_true] at h
      simp [h.1.1, ihs h.2]
  | _ => intro xs h; rw [ckA] at h <;> first | cases h | (intros; contradiction)
theorem ckA_split : ∀ {x : Ex} {xs ys : List Expr}, ckA G N sc x (xs ++ ys) = true → ckA G N sc (takeX xs.length x) xs = true ∧ ckA G N sc (dropX xs.length x) ys = true := by
  intro x xs
  induction xs generalizing x with
  | nil => intro ys h; exact ⟨by simp [takeX, ckA], by simpa [dropX] using h⟩
  | cons z zs ih =>
    intro ys h
    cases x with
    | cons e es =>
      rw [List.cons_append, ckA] at h
      simp only [Bool.and_eq_true] at h
      obtain ⟨h1, h2⟩ := ih h.2
      refine ⟨?_, h2⟩
      show ckA G N sc (.cons e (takeX zs.length es)) (z :: zs) = true
      rw [ckA, h.1.1, h.1.2, h1]; rfl
    | _ => rw [List.cons_append, ckA] at h <;> first | cases h | (intros; contradiction)
theorem ckL_nst : ∀ {x : Ex} {xs : List Expr}, ckL G N sc x xs = true → xs.all nst = true := by
  intro x
  induction x with
  | nil => intro xs h; cases xs with
    | nil => rfl
    | cons _ _ => rw [ckL] at h <;> first | cases h | (intros; contradiction)
  | cons e es ihe ihs =>
    intro xs h
    cases xs with
    | nil => rfl
    | cons y ys =>
      rw [ckL] at h
      simp only [Bool.and_eq_true] at h
      simp [h.1.1, ihs h.2]
  | _ => intro xs h; rw [ckL] at h <;> first | cases h | (intros; contradiction)
/-- an argument by itself -/
inductive ArOk (X : Cx) (C : Ctx) : Ex → Expr → Prop where
  | ref {i : Nat} {y : PySem.Str} {p : Pos} (hN : X.N[i]? = some y) (hv : Vis X.env.scope y) (hd : (y == ("__debug__" : PySem.Str)) = false) (hcd : (y == ("__classdict__" : PySem.Str)) = false) : ArOk X C (.ref i) (.Name y p)
  | val {e : Ex} {x : Expr} (h : PE X x (tE C e)) : ArOk X C (.tval e) x
structure Snd (x : Ex) : Prop where
  j : ∀ {C : Ctx} {X : Cx} {G : GS} {lv : Nat} {N : List PySem.Str} {sc : Scope} (_ : XOk X C G lv N sc) {ys : List Expr}, ckJ G N sc x ys = true → ∃ ts, PJ X ys ts ∧ ∀ acc σ H Q, tJX C x acc σ H Q → tJs ts acc σ H Q
  e : ∀ {C : Ctx} {X : Cx} {G : GS} {lv : Nat} {N : List PySem.Str} {sc : Scope} (_ : XOk X C G lv N sc) {ex : Expr}, ckE G N sc x ex = true → PE X ex (tE C x)
  n : ∀ {C : Ctx} {X : Cx} {G : GS} {lv : Nat} {N : List PySem.Str} {sc : Scope} (_ : XOk X C G lv N sc) {ex : Expr}, (match x with | .lst _ => true | .comp _ _ _ _ _ _ => true | .bin .add _ _ => true | _ => false) = true → ckE G N sc x ex = true → PE X ex (tN C x)
  t : ∀ {C : Ctx} {X : Cx} {G : GS} {lv : Nat} {N : List PySem.Str} {sc : Scope} (_ : XOk X C G lv N sc) {ex : Expr}, ckT G N sc x ex = true → PT X ex (tT C x)
  w : ∀ {C : Ctx} {X : Cx} {G : GS} {lv : Nat} {N : List PySem.Str} {sc : Scope} (_ : XOk X C G lv N sc) {op : BoolOp} {es : List Expr} {p : Pos}, ckT G N sc x (.BoolOp op es p) = true → PW X (.BoolOp op es p) (tT C x)
  l : ∀ {C : Ctx} {X : Cx} {G : GS} {lv : Nat} {N : List PySem.Str} {sc : Scope} (_ : XOk X C G lv N sc) {ex : List Expr}, ckL G N sc x ex = true → PA X ex (tL C x)
  a : ∀ {C : Ctx} {X : Cx} {G : GS} {lv : Nat} {N : List PySem.Str} {sc : Scope} (_ : XOk X C G lv N sc) {xs ys : List Expr}, ckA G N sc x (xs ++ ys) = true → PA X xs (tA C (takeX xs.length x))
  k : ∀ {C : Ctx} {X : Cx} {G : GS} {lv : Nat} {N : List PySem.Str} {sc : Scope} (_ : XOk X C G lv N sc) {xs : List Expr} {ys : List Keyword}, ckA G N sc x (xs ++ ys.map (·.value)) = true → PK X ys (tA C (dropX xs.length x))
  r : ∀ {C : Ctx} {X : Cx} {G : GS} {lv : Nat} {N : List PySem.Str} {sc : Scope} (_ : XOk X C G lv N sc) {ex : Expr}, ckAr G N sc x ex = true → ArOk X C x ex
  o : ∀ {C : Ctx} {X : Cx} {G : GS} {lv : Nat} {N : List PySem.Str} {sc : Scope} (_ : XOk X C G lv N sc) {ex : Option Expr}, ckO G N sc x ex = true → PO X ex (tO C x)
  c : ∀ {C : Ctx} {X : Cx} {G : GS} {lv : Nat} {N : List PySem.Str} {sc : Scope} (_ : XOk X C G lv N sc) {l r : Expr} {op : CmpOp} {p : Pos}, ckE G N sc x (.Compare l [op] [r] p) = true → PT X (.Compare l [op] [r] p) (tT C (.tval x))
  s : ∀ {C : Ctx} {X : Cx} {G : GS} {lv : Nat} {N : List PySem.Str} {sc : Scope} (_ : XOk X C G lv N sc) {a : Expr} (e : Ex), x = .cons e .nil → ckE G N sc e a = true → PE X a (tE C e)
  i : ∀ {C : Ctx} {X : Cx} {G : GS} {lv : Nat} {N : List PySem.Str} {sc : Scope} (_ : XOk X C G lv N sc) {wk : Wk} {it tg : Expr}, ckI G N sc wk x it tg = true → PI X tg it (tI C wk x) ∧ notSet it = true
theorem r_anil' : PA X [] (tA C (takeX ([] : List Expr).length x)) := r_anil
theorem r_pand {b : Ex} {y : Expr} {r : List Expr} {p : Pos} (ih : Snd b) (xo : XOk X C G lv N sc) (h : (match r with | [] => ckE G N sc b y | _ :: _ => ckE G N sc b (.BoolOp .And (y :: r) p)) = true) : PE X (.BoolOp .And (y :: r) p) (tE C b) := by
  cases r with
  | nil => exact pe_one (ih.e xo h)
  | cons z zs => exact ih.e xo h
theorem r_por {b : Ex} {y : Expr} {r : List Expr} {p : Pos} (ih : Snd b) (xo : XOk X C G lv N sc) (h : (match r with | [] => ckE G N sc b y | _ :: _ => ckE G N sc b (.BoolOp .Or (y :: r) p)) = true) : PE X (.BoolOp .Or (y :: r) p) (tE C b) := by
  cases r with
  | nil => exact pe_one (ih.e xo h)
  | cons z zs => exact ih.e xo h
theorem r_wand {b : Ex} {y : Expr} {r : List Expr} {p : Pos} (ih : Snd b) (xo : XOk X C G lv N sc) (h : (match r with | [] => ckT G N sc b y | _ :: _ => ckT G N sc b (.BoolOp .And (y :: r) p)) = true) : PW X (.BoolOp .And (y :: r) p) (tT C b) := by
  cases r with
  | nil => exact pw_and1 (ih.t xo h)
  | cons z zs => exact ih.w xo h
theorem r_wor {b : Ex} {y : Expr} {r : List Expr} {p : Pos} (ih : Snd b) (xo : XOk X C G lv N sc) (h : (match r with | [] => ckT G N sc b y | _ :: _ => ckT G N sc b (.BoolOp .Or (y :: r) p)) = true) : PW X (.BoolOp .Or (y :: r) p) (tT C b) := by
  cases r with
  | nil => exact pw_or1 (ih.t xo h)
  | cons z zs => exact ih.w xo h
theorem takeX_full : ∀ {x : Ex} {xs : List Expr}, ckA G N sc x xs = true → takeX xs.length x = x := by
  intro x
  induction x with
  | nil => intro xs h; cases xs with
    | nil => rfl
    | cons _ _ => rw [ckA] at h <;> first | cases h | (intros; contradiction)
  | cons e es ihe ihs =>
    intro xs h
    cases xs with
    | nil => rw [ckA] at h <;> first | cases h | (intros; contradiction)
    | cons y ys =>
      rw [ckA] at h
      simp only [Bool.and_eq_true] at h
      show Ex.cons e (takeX ys.length es) = _
      rw [ihs h.2]
  | _ => intro xs h; rw [ckA] at h <;> first | cases h | (intros; contradiction)
theorem r_callA (xo : XOk X C G lv N sc) {es : Ex} (ih : Snd es) {f : PySem.Str} {pm : List Nat} {args : List Expr} {kws : List Keyword} {p pos : Pos} (hg : gl sc f = true) (ho : okN f = true) (h1 : (match G.fn.lookup f with
      | some (n, kf) => decide (pm.length = n) && (match kws with
        | [] => decide (pm = List.range args.length) && !args.isEmpty
        | _ :: _ => (match kwN kws with | some ks => decide ((args.length, ks, pm) ∈ kf) | none => false))
      | none => false) = true) (h2 : ckA G N sc es (args ++ kws.map (·.value)) = true) : PE X (.Call (.Name f p) args kws pos) (tE C (.call f pm es)) := by
  split at h1
  · rename_i n kf hf
    simp only [Bool.and_eq_true, decide_eq_true_eq] at h1
    obtain ⟨hl, h1⟩ := h1
    cases kws with
    | nil =>
      simp only [Bool.and_eq_true, decide_eq_true_eq, Bool.not_eq_true', List.map_nil, List.append_nil] at h1 h2
      cases args with
      | nil => simp at h1
      | cons a args =>
        have hn := ckA_nst h2
        simp only [List.all_cons, Bool.and_eq_true] at hn
        have pa := ih.a xo (xs := a :: args) (ys := []) (by rw [List.append_nil]; exact h2)
        rw [takeX_full h2] at pa
        rw [h1.1]
        exact r_call xo hf (xo.gl _ hg) (okN_of ho).1 (by rw [← hl, h1.1, List.length_range]) hn.1 hn.2 pa fun env as env' e => ckA_len h2 e
    | cons k ks' =>
      simp only at h1
      split at h1
      · rename_i ks hk
        have hsp := ckA_split h2
        have hn := ckA_nst hsp.1
        refine r_callK xo hf (xo.gl _ hg) (okN_of ho).1 hl (of_decide_eq_true h1) hk hn (ih.a xo h2) (ih.k xo h2) (fun env as env' e => ?_) (fun env as env' e => ckA_len hsp.1 e)
        rw [ckA_len h2 e, List.length_append, List.length_map]
      · cases h1
  · cases h1
theorem r_bltA (xo : XOk X C G lv N sc) {f : BF} {es : Ex} (ih : Snd es) {y : PySem.Str} {a : Expr} {args : List Expr} {p pos : Pos} (hf : ∀ t, f ≠ .isi t) (h : (match f with
      | .isi t => false
      | .gcd => decide ((y, "math.gcd") ∈ G.mf) && gl sc y && okN y && ckL G N sc es (a :: args)
      | .isqrt => decide ((y, "math.isqrt") ∈ G.mf) && gl sc y && okN y && ckL G N sc es (a :: args)
      | f => decide (y = bfN f) && gl sc y && decide (y ∈ G.bl) && ckL G N sc es (a :: args)) = true) : PE X (.Call (.Name y p) (a :: args) [] pos) (tE C (.blt f es)) := by
  have go : ∀ {b : Bool}, (b && ckL G N sc es (a :: args)) = true → nst a = true ∧ args.all nst = true ∧ PA X (a :: args) (tL C es) := fun {b} h => by
    simp only [Bool.and_eq_true] at h
    have hn := ckL_nst h.2
    simp only [List.all_cons, Bool.and_eq_true] at hn
    exact ⟨hn.1, hn.2, ih.l xo h.2⟩
  obtain ⟨n1, n2, pa⟩ : nst a = true ∧ args.all nst = true ∧ PA X (a :: args) (tL C es) := by
    cases f <;> first | exact go h | exact absurd rfl (hf _)
  cases f <;> simp only [Bool.and_eq_true, decide_eq_true_eq] at h <;> try (exact absurd rfl (hf _))
  case abs => obtain ⟨⟨⟨rfl, h1⟩, h2⟩, h3⟩ := h; exact r_bltB xo.K cf_abs (xo.gl _ h1) (xo.bl _ h2) (by decide +kernel) (by decide) (by decide) n1 n2 pa
  case int => obtain ⟨⟨⟨rfl, h1⟩, h2⟩, h3⟩ := h; exact r_bltT xo.K cf_int (xo.gl _ h1) (xo.bl _ h2) (by decide +kernel) (by decide) (by decide) n1 n2 pa
  case len => obtain ⟨⟨⟨rfl, h1⟩, h2⟩, h3⟩ := h; exact r_bltB xo.K cf_len (xo.gl _ h1) (xo.bl _ h2) (by decide +kernel) (by decide) (by decide) n1 n2 pa
  case sum => obtain ⟨⟨⟨rfl, h1⟩, h2⟩, h3⟩ := h; exact r_bltB xo.K (cf_sum xo.calm) (xo.gl _ h1) (xo.bl _ h2) (by decide +kernel) (by decide) (by decide) n1 n2 pa
  case max => obtain ⟨⟨⟨rfl, h1⟩, h2⟩, h3⟩ := h; exact r_bltB xo.K (cf_max xo.calm) (xo.gl _ h1) (xo.bl _ h2) (by decide +kernel) (by decide) (by decide) n1 n2 pa
  case min => obtain ⟨⟨⟨rfl, h1⟩, h2⟩, h3⟩ := h; exact r_bltB xo.K (cf_min xo.calm) (xo.gl _ h1) (xo.bl _ h2) (by decide +kernel) (by decide) (by decide) n1 n2 pa
  case all => obtain ⟨⟨⟨rfl, h1⟩, h2⟩, h3⟩ := h; exact r_bltB xo.K (cf_all xo.calm) (xo.gl _ h1) (xo.bl _ h2) (by decide +kernel) (by decide) (by decide) n1 n2 pa
  case any => obtain ⟨⟨⟨rfl, h1⟩, h2⟩, h3⟩ := h; exact r_bltB xo.K (cf_any xo.calm) (xo.gl _ h1) (xo.bl _ h2) (by decide +kernel) (by decide) (by decide) n1 n2 pa
  case list => obtain ⟨⟨⟨rfl, h1⟩, h2⟩, h3⟩ := h; exact r_bltT xo.K cf_list (xo.gl _ h1) (xo.bl _ h2) (by decide +kernel) (by decide) (by decide) n1 n2 pa
  case tuple => obtain ⟨⟨⟨rfl, h1⟩, h2⟩, h3⟩ := h; exact r_bltT xo.K cf_tuple (xo.gl _ h1) (xo.bl _ h2) (by decide +kernel) (by decide) (by decide) n1 n2 pa
  case str => obtain ⟨⟨⟨rfl, h1⟩, h2⟩, h3⟩ := h; exact r_bltT xo.K cf_str (xo.gl _ h1) (xo.bl _ h2) (by decide +kernel) (by decide) (by decide) n1 n2 pa
  case repr => obtain ⟨⟨⟨rfl, h1⟩, h2⟩, h3⟩ := h; exact r_bltB xo.K (cf_repr xo.qt xo.room.units) (xo.gl _ h1) (xo.bl _ h2) (by decide +kernel) (by decide) (by decide) n1 n2 pa
  case gcd => obtain ⟨⟨⟨h0, h1⟩, h2⟩, h3⟩ := h; exact r_bltM xo.K cf_gcd (xo.gl _ h1) (xo.mf _ h0) (okN_of h2).1 n1 n2 pa
  case isqrt => obtain ⟨⟨⟨h0, h1⟩, h2⟩, h3⟩ := h; exact r_bltM xo.K cf_isqrt (xo.gl _ h1) (xo.mf _ h0) (okN_of h2).1 n1 n2 pa
end Mn

namespace Mn
open PySem L2 RZ
variable {C : Ctx} {X : Cx} {F : FT} {env env' : Env} {d : D} {G : GS} {lv : Nat} {N : List PySem.Str} {sc : Scope}

theorem r_zipP {x y : Expr} {p pos tpos : Pos} {elts : List Expr} {kk : Nat} {e es : Ex} (hK : X.K = C.K) (hg : Gl X "zip") (hm : X.mg "zip" = none) (n1 : nst x = true) (n2 : nst y = true) (h1 : PE X x (tE C e)) (h2 : PA X [y] (tL C es)) :
    PI X (.Tuple elts kk tpos) (.Call (.Name "zip" p) [x, y] [] pos) (tI C .zip (.cons e es)) :=
  (pi_zipA hg hm (r_cons n1 h1 h2) (star_cons n1) (star_any (es := [y]) (by simp [n2]))).imp fun σ H R h => by
    obtain ⟨B, M, env, xs, its, env', s, ev, w, q⟩ := h
    refine ⟨B, M, env, xs, env', s, ev, fun vs H1 B1 M1 s1 r1 n1 => ?_⟩
    unfold walk at w
    split at w <;> first | (cases w; done) | contradiction | skip
    · cases w
      obtain ⟨v1, v2, rfl, r2, r3⟩ := r1.two
      obtain ⟨a, vs, rfl, c1, c2, c5⟩ := r2
      obtain ⟨b, ws, rfl, c3, c4, c6⟩ := r3
      exact ⟨a, b, vs, ws, rfl, .inl ⟨.inl (.inl c1), .inl (.inl c3), (by rw [hK]; exact q _ _ H1 B1 M1 s1 wlk_zip ⟨⟨vs, c1, c2, c5⟩, ⟨ws, c3, c4, c6⟩⟩ n1)⟩⟩
    · cases w
      obtain ⟨v1, v2, rfl, r2, r3⟩ := r1.two
      obtain ⟨a, vs, rfl, c1, c2⟩ := r2
      obtain ⟨b, ws, rfl, c3, c4⟩ := r3
      exact ⟨a, b, vs, ws, rfl, .inr ⟨hK ▸ c1, hK ▸ c3, (by rw [hK]; exact q _ _ H1 B1 M1 s1 wlk_zipT ⟨⟨vs, c1, c2⟩, ⟨ws, c3, c4⟩⟩ n1)⟩⟩
theorem map_own (N : List PySem.Str) (own : List Nat) : (own.map fun i => (N.getD i "", i)).map (·.2) = own := by
  induction own with
  | nil => rfl
  | cons i r ih => rw [List.map_cons, List.map_cons, ih]
theorem ev_comp_is {w : Wk} {src cd el : Ex} {tg : Tg} {own : List Nat} {env : Env} {d : D} {env' : Env} (h : evE F (.comp w src tg cd el own) env = some (d, env')) : ∃ xs, d = .lst xs := let ⟨_, _, _, ds, _, _, _, _, _, e⟩ := ev_comp h; ⟨ds, e⟩
theorem _root_.L2.PTs.imp {X : Cx} {e : List Expr} {t t' : TT} (h : PTs X e t) (i : ∀ σ H Q, t' σ H Q → t σ H Q) : PTs X e t' := ⟨fun pins s σ H Q I q => h.run pins s σ H Q I (i σ H Q q)⟩
theorem r_ifs (xo : XOk X C G lv N sc) {cd : Ex} {ifs : List Expr} (h : (match ifs with | [] => (match cd with | .tyes => true | _ => false) | [c] => ckT G N sc cd c | _ => false) = true) (ih : Snd cd) : PTs X ifs (tTB C cd) := by
  cases ifs with
  | nil =>
    cases cd <;> first | (cases h; done) | skip
    refine pts_nil.imp fun σ H Q hq => ?_
    obtain ⟨B0, B, M, env, k, env', s, e, q⟩ := hq
    rw [evT] at e; cases e
    exact q H B M s (Nx.refl _ _ _)
  | cons c cs =>
    cases cs with
    | nil => exact pts_one (pt_B fun B0 => ih.t xo.at h)
    | cons _ _ => cases h
theorem r_tvcmp (xo : XOk X C G lv N sc) {o : CO} {a b : Ex} {op : CmpOp} {l r : Expr} {p : Pos} (ih : Snd (.cmp o a b)) (h1 : ckC o op = true) (h2 : ckE G N sc a l = true) (h3 : ckE G N sc b r = true) : PT X (.Compare l [op] [r] p) (tT C (.tval (.cmp o a b))) :=
  ih.c xo (by simp [ckE, h1, h2, h3])
theorem r_bltAll (xo : XOk X C G lv N sc) {f : BF} {es : Ex} {y : PySem.Str} {a : Expr} {args : List Expr} {p pos : Pos} (h : (match f with
      | .isi t => decide (y = ("isinstance" : PySem.Str)) && gl sc y && decide (y ∈ G.bl) && (match args with
        | [.Name z _] => decide (z = PySem.Str.ofString t) && gl sc z && okN z && decide (z ∈ G.bl) && decide (bootBuiltins z = some (.type t)) && (match es with | .cons e .nil => nst a && ckE G N sc e a | _ => false)
        | _ => false)
      | .gcd => decide ((y, "math.gcd") ∈ G.mf) && gl sc y && okN y && ckL G N sc es (a :: args)
      | .isqrt => decide ((y, "math.isqrt") ∈ G.mf) && gl sc y && okN y && ckL G N sc es (a :: args)
      | f => decide (y = bfN f) && gl sc y && decide (y ∈ G.bl) && ckL G N sc es (a :: args)) = true) (ih : Snd es) : PE X (.Call (.Name y p) (a :: args) [] pos) (tE C (.blt f es)) := by
  cases f with
  | isi t =>
    simp only [Bool.and_eq_true, decide_eq_true_eq] at h
    obtain ⟨⟨⟨rfl, h1⟩, h2⟩, h⟩ := h
    split at h
    · rename_i z zp
      rw [Bool.and_eq_true, Bool.and_eq_true, Bool.and_eq_true, Bool.and_eq_true, Bool.and_eq_true] at h
      obtain ⟨⟨⟨⟨⟨h3, h4⟩, h5⟩, h6⟩, h7⟩, h8⟩ := h
      cases es with
      | cons e e2 =>
        cases e2 with
        | nil =>
          simp only [Bool.and_eq_true] at h8
          exact r_isi xo.K (xo.gl _ h1) (xo.bl _ h2) (xo.gl _ h4) (xo.bl _ (of_decide_eq_true h6)) (of_decide_eq_true h7) (okN_of h5).2.2 (okN_of h5).1 h8.1 (ih.s xo _ rfl h8.2)
        | _ => cases h8
      | _ => cases h8
    · cases h
  | _ => exact r_bltA xo ih (fun _ z => by cases z) h
/-! ### what kinds of expressions can be read as what -/
def isJ : Ex → Bool | .nil => true | .cons _ _ => true | _ => false
def isTt : Ex → Bool | .tnot _ => true | .tand _ _ => true | .tor _ _ => true | .tvar _ => true | .tval _ => true | _ => false
def isWw : Ex → Bool | .tand _ _ => true | .tor _ _ => true | .tval _ => true | _ => false
def isOo : Ex → Bool | .nil => true | .tval _ => true | _ => false
def isAa : Ex → Bool | .ref _ => true | .tval _ => true | _ => false
def isIi : Ex → Bool | .cons _ _ => true | _ => false
def isCc : Ex → Bool | .cmp _ _ _ => true | _ => false
theorem invJ {G : GS} {N : List PySem.Str} {sc : Scope} {x : Ex} {ys : List Expr} (h : ckJ G N sc x ys = true) : isJ x = true := by
  unfold ckJ at h; split at h <;> first | rfl | (cases h; done)
theorem invL {G : GS} {N : List PySem.Str} {sc : Scope} {x : Ex} {ys : List Expr} (h : ckL G N sc x ys = true) : isJ x = true := by
  unfold ckL at h; split at h <;> first | rfl | (cases h; done)
theorem invA {G : GS} {N : List PySem.Str} {sc : Scope} {x : Ex} {ys : List Expr} (h : ckA G N sc x ys = true) : isJ x = true := by
  unfold ckA at h; split at h <;> first | rfl | (cases h; done)
theorem invT {G : GS} {N : List PySem.Str} {sc : Scope} {x : Ex} {ys : Expr} (h : ckT G N sc x ys = true) : isTt x = true := by
  unfold ckT at h; split at h <;> first | rfl | (cases h; done)
theorem invW {G : GS} {N : List PySem.Str} {sc : Scope} {x : Ex} {op : BoolOp} {es : List Expr} {p : Pos} (h : ckT G N sc x (.BoolOp op es p) = true) : isWw x = true := by
  unfold ckT at h; split at h <;> first | rfl | (cases h; done) | (rename_i hq; cases hq; done)
theorem invO {G : GS} {N : List PySem.Str} {sc : Scope} {x : Ex} {ys : Option Expr} (h : ckO G N sc x ys = true) : isOo x = true := by
  unfold ckO at h; split at h <;> first | rfl | (cases h; done)
theorem invAr {G : GS} {N : List PySem.Str} {sc : Scope} {x : Ex} {ys : Expr} (h : ckAr G N sc x ys = true) : isAa x = true := by
  unfold ckAr at h; split at h <;> first | rfl | (cases h; done)
theorem invI {G : GS} {N : List PySem.Str} {sc : Scope} {wk : Wk} {x : Ex} {a b : Expr} (h : ckI G N sc wk x a b = true) : isIi x = true := by
  unfold ckI at h; split at h <;> first | rfl | (cases h; done)
theorem invC {G : GS} {N : List PySem.Str} {sc : Scope} {x : Ex} {l r : Expr} {op : CmpOp} {p : Pos} (h : ckE G N sc x (.Compare l [op] [r] p) = true) : isCc x = true := by
  unfold ckE at h; split at h <;> first | rfl | (cases h; done) | (rename_i hq; cases hq; done)
def InvE (G : GS) (N : List PySem.Str) (sc : Scope) : Ex → Expr → Prop
  | .var i, ex => ∃ x z1, ex = .Name x z1 ∧ (nm N sc i x) = true
  | .con d, ex => ∃ c z1 z2, ex = .Constant c z1 z2 ∧ (ckK d c) = true
  | .glo x, ex => ∃ y z1, ex = .Name y z1 ∧ (decide (x = y) && gl sc x && okN x && decide (x ∈ G.co)) = true
  | .ixv i e, ex => ∃ x z1 s z2, ex = .Subscript (.Name x z1) s z2 ∧ (nm N sc i x && notSl s && ckE G N sc e s) = true
  | .lenv i, ex => ∃ f z1 x z2 z3, ex = .Call (.Name f z1) [.Name x z2] [] z3 ∧ (decide (f = ("len" : PySem.Str)) && gl sc f && decide (f ∈ G.bl) && nm N sc i x) = true
  | .bin o a b, ex => ∃ l op r z1, ex = .BinOp l op r z1 ∧ (ckB o op && ckE G N sc a l && ckE G N sc b r) = true
  | .neg a, ex => ∃ l z1, ex = .UnaryOp .USub l z1 ∧ (ckE G N sc a l) = true
  | .cmp o a b, ex => ∃ l op r z1, ex = .Compare l [op] [r] z1 ∧ (ckC o op && ckE G N sc a l && ckE G N sc b r) = true
  | .vand a b, ex => ∃ x y r p, ex = .BoolOp .And (x :: y :: r) p ∧ (ckE G N sc a x && (match r with | [] => ckE G N sc b y | _ :: _ => ckE G N sc b (.BoolOp .And (y :: r) p))) = true
  | .vor a b, ex => ∃ x y r p, ex = .BoolOp .Or (x :: y :: r) p ∧ (ckE G N sc a x && (match r with | [] => ckE G N sc b y | _ :: _ => ckE G N sc b (.BoolOp .Or (y :: r) p))) = true
  | .vnot a, ex => ∃ l z1, ex = .UnaryOp .Not l z1 ∧ (ckE G N sc a l) = true
  | .ite c a b, ex => ∃ t l r z1, ex = .IfExp t l r z1 ∧ (ckT G N sc c t && ckE G N sc a l && ckE G N sc b r) = true
  | .tup es, ex => ∃ xs z1 z2, ex = .Tuple xs z1 z2 ∧ (ckL G N sc es xs) = true
  | .lst es, ex => ∃ xs z1, ex = .List xs z1 ∧ (ckL G N sc es xs) = true
  | .ix a i, ex => ∃ l s z1, ex = .Subscript l s z1 ∧ (notSl s && ckE G N sc a l && ckE G N sc i s) = true
  | .slc a lo hi, ex => ∃ l x y z1 z2, ex = .Subscript l (.Slice x y none z1) z2 ∧ (ckE G N sc a l && ckO G N sc lo x && ckO G N sc hi y) = true
  | .rev a, ex => ∃ l i z1 z2 z3 z4 z5, ex = .Subscript l (.Slice none none (some (.UnaryOp .USub (.Constant (.int i) z1 z2) z3)) z4) z5 ∧ (decide (i = 1) && ckE G N sc a l) = true
  | .att cs e f, ex => ∃ l g z1, ex = .Attribute l g z1 ∧ (decide (f = g) && notSup l && cs.all (fun c => decide ((c, f) ∈ G.ca)) && ckE G N sc e l) = true
  | .sg f, ex => ∃ x z1 g z2, ex = .Attribute (.Name x z1) g z2 ∧ (decide (f = g) && nm N sc 0 x && (match G.slf with | some fl => decide (f ∈ fl) | none => false)) = true
  | .mk c es, ex => ∃ x z1 a args z2, ex = .Call (.Name x z1) (a :: args) [] z2 ∧ (decide (c = x) && gl sc c && okN c && decide (G.mks.lookup c = some (args.length + 1)) && nst a && args.all nst && ckL G N sc es (a :: args)) = true
  | .fst es, ex => ∃ ys z1, ex = .JoinedStr ys z1 ∧ ((match ys with | _ :: _ :: _ => true | _ => false) && ckJ G N sc es ys) = true
  | .call f pm es, ex => ∃ x z1 args kws z2, ex = .Call (.Name x z1) args kws z2 ∧ (  decide (f = x) && gl sc f && okN f && (match G.fn.lookup f with
        | some (n, kf) => decide (pm.length = n) && (match kws with
          | [] => decide (pm = List.range args.length) && !args.isEmpty
          | _ :: _ => (match kwN kws with | some ks => decide ((args.length, ks, pm) ∈ kf) | none => false))
        | none => false) && ckA G N sc es (args ++ kws.map (·.value))) = true
  | .calln f g es, ex => ∃ x z1 y z2 a args z3 z4, ex = .Call (.Name x z1) [.Call (.Name y z2) (a :: args) [] z3] [] z4 ∧ (decide (f = x) && gl sc f && okN f && decide (g = y) && gl sc g && okN g && (match G.fn.lookup f with | some (n, _) => decide (n = 1) | none => false) && decide (G.nw.lookup g = some (args.length + 1)) && ckL G N sc es (a :: args)) = true
  | .lrng e, ex => ∃ x z1 y z2 a z3 z4, ex = .Call (.Name x z1) [.Call (.Name y z2) [a] [] z3] [] z4 ∧ (decide (x = ("list" : PySem.Str)) && gl sc x && decide (x ∈ G.bl) && decide (y = ("range" : PySem.Str)) && gl sc y && decide (y ∈ G.bl) && nst a && ckE G N sc e a) = true
  | .blt f es, ex => ∃ x z1 a args z2, ex = .Call (.Name x z1) (a :: args) [] z2 ∧ (  (match f with
        | .isi t => decide (x = ("isinstance" : PySem.Str)) && gl sc x && decide (x ∈ G.bl) && (match args with
          | [.Name y _] => decide (y = PySem.Str.ofString t) && gl sc y && okN y && decide (y ∈ G.bl) && decide (bootBuiltins y = some (.type t)) && (match es with | .cons e .nil => nst a && ckE G N sc e a | _ => false)
          | _ => false)
        | .gcd => decide ((x, "math.gcd") ∈ G.mf) && gl sc x && okN x && ckL G N sc es (a :: args)
        | .isqrt => decide ((x, "math.isqrt") ∈ G.mf) && gl sc x && okN x && ckL G N sc es (a :: args)
        | f => decide (x = bfN f) && gl sc x && decide (x ∈ G.bl) && ckL G N sc es (a :: args))) = true
  | .comp w src tg cd el own, ex => ∃ elt tge iter ifs scope z1, ex = .ListComp elt [⟨tge, iter, ifs, 0⟩] scope z1 ∧ (  ckI G N sc w src iter tge && ckTg N scope tg tge && blkC N sc scope (own.map fun i => (N.getD i "", i)) && (tgs tg).all (fun i => decide (i ∈ own)) &&
        (match ifs with | [] => (match cd with | .tyes => true | _ => false) | [c] => ckT G N scope cd c | _ => false) && ckE G N scope el elt) = true
  | .mth _ _ _, _ => True
  | _, _ => False
theorem ckE_inv {G : GS} {N : List PySem.Str} {sc : Scope} {x : Ex} {ex : Expr} (h : ckE G N sc x ex = true) : InvE G N sc x ex := by
  unfold ckE at h
  split at h <;> first | (cases h; done) | exact trivial | skip
  all_goals first | exact ⟨_, _, rfl, h⟩ | exact ⟨_, _, _, rfl, h⟩ | exact ⟨_, _, _, _, rfl, h⟩ | exact ⟨_, _, _, _, _, rfl, h⟩ | exact ⟨_, _, _, _, _, _, rfl, h⟩ | exact ⟨_, _, _, _, _, _, _, rfl, h⟩ | exact ⟨_, _, _, _, _, _, _, _, rfl, h⟩
theorem snd_all : ∀ x : Ex, Snd x := by
  intro x
  induction x with
  | var i =>
    refine ⟨?_, ?_, ?_, ?_, ?_, ?_, ?_, ?_, ?_, ?_, ?_, ?_, ?_⟩
    · intro C X G lv N sc xo ys h; cases invJ h
    · intro C X G lv N sc xo ex h; replace h := ckE_inv h; obtain ⟨_, _, rfl, h⟩ := h
      obtain ⟨h1, h2, h3, h4⟩ := nmOk xo h
      exact r_var h1 h2 h3 h4
    · intro C X G lv N sc xo ex hn h; cases hn
    · intro C X G lv N sc xo ex h; cases invT h
    · intro C X G lv N sc xo op es p h; cases invW h
    · intro C X G lv N sc xo ex h; cases invL h
    · intro C X G lv N sc xo xs ys h; cases invA h
    · intro C X G lv N sc xo xs ys h; cases invA h
    · intro C X G lv N sc xo ex h; cases invAr h
    · intro C X G lv N sc xo ex h; cases invO h
    · intro C X G lv N sc xo l r op p h; cases invC h
    · intro C X G lv N sc xo a e he h; cases he
    · intro C X G lv N sc xo wk it tg h; cases invI h
  | con d =>
    refine ⟨?_, ?_, ?_, ?_, ?_, ?_, ?_, ?_, ?_, ?_, ?_, ?_, ?_⟩
    · intro C X G lv N sc xo ys h; cases invJ h
    · intro C X G lv N sc xo ex h; replace h := ckE_inv h; obtain ⟨_, _, _, rfl, h⟩ := h
      exact r_con h
    · intro C X G lv N sc xo ex hn h; cases hn
    · intro C X G lv N sc xo ex h; cases invT h
    · intro C X G lv N sc xo op es p h; cases invW h
    · intro C X G lv N sc xo ex h; cases invL h
    · intro C X G lv N sc xo xs ys h; cases invA h
    · intro C X G lv N sc xo xs ys h; cases invA h
    · intro C X G lv N sc xo ex h; cases invAr h
    · intro C X G lv N sc xo ex h; cases invO h
    · intro C X G lv N sc xo l r op p h; cases invC h
    · intro C X G lv N sc xo a e he h; cases he
    · intro C X G lv N sc xo wk it tg h; cases invI h
  | glo y =>
    refine ⟨?_, ?_, ?_, ?_, ?_, ?_, ?_, ?_, ?_, ?_, ?_, ?_, ?_⟩
    · intro C X G lv N sc xo ys h; cases invJ h
    · intro C X G lv N sc xo ex h; replace h := ckE_inv h; obtain ⟨_, _, rfl, h⟩ := h
      simp only [Bool.and_eq_true, decide_eq_true_eq] at h
      obtain ⟨⟨⟨rfl, h2⟩, h3⟩, h4⟩ := h
      exact r_glo xo (xo.gl _ h2) (okN_of h3).1 h4
    · intro C X G lv N sc xo ex hn h; cases hn
    · intro C X G lv N sc xo ex h; cases invT h
    · intro C X G lv N sc xo op es p h; cases invW h
    · intro C X G lv N sc xo ex h; cases invL h
    · intro C X G lv N sc xo xs ys h; cases invA h
    · intro C X G lv N sc xo xs ys h; cases invA h
    · intro C X G lv N sc xo ex h; cases invAr h
    · intro C X G lv N sc xo ex h; cases invO h
    · intro C X G lv N sc xo l r op p h; cases invC h
    · intro C X G lv N sc xo a e he h; cases he
    · intro C X G lv N sc xo wk it tg h; cases invI h
  | ixv i e ih =>
    refine ⟨?_, ?_, ?_, ?_, ?_, ?_, ?_, ?_, ?_, ?_, ?_, ?_, ?_⟩
    · intro C X G lv N sc xo ys h; cases invJ h
    · intro C X G lv N sc xo ex h; replace h := ckE_inv h; obtain ⟨_, _, _, _, rfl, h⟩ := h
      simp only [Bool.and_eq_true, decide_eq_true_eq] at h
      obtain ⟨h1, h2, h3, h4⟩ := nmOk xo h.1.1
      exact r_ixv xo.K h1 h2 h3 h4 h.1.2 (ih.e xo h.2)
    · intro C X G lv N sc xo ex hn h; cases hn
    · intro C X G lv N sc xo ex h; cases invT h
    · intro C X G lv N sc xo op es p h; cases invW h
    · intro C X G lv N sc xo ex h; cases invL h
    · intro C X G lv N sc xo xs ys h; cases invA h
    · intro C X G lv N sc xo xs ys h; cases invA h
    · intro C X G lv N sc xo ex h; cases invAr h
    · intro C X G lv N sc xo ex h; cases invO h
    · intro C X G lv N sc xo l r op p h; cases invC h
    · intro C X G lv N sc xo a e he h; cases he
    · intro C X G lv N sc xo wk it tg h; cases invI h
  | lenv i =>
    refine ⟨?_, ?_, ?_, ?_, ?_, ?_, ?_, ?_, ?_, ?_, ?_, ?_, ?_⟩
    · intro C X G lv N sc xo ys h; cases invJ h
    · intro C X G lv N sc xo ex h; replace h := ckE_inv h; obtain ⟨_, _, _, _, _, rfl, h⟩ := h
      simp only [Bool.and_eq_true, decide_eq_true_eq] at h
      obtain ⟨⟨⟨rfl, g1⟩, g2⟩, g3⟩ := h
      obtain ⟨h1, h2, h3, h4⟩ := nmOk xo g3
      exact r_lenv xo.K (xo.gl _ g1) (xo.bl _ g2) h1 h2 h3 h4
    · intro C X G lv N sc xo ex hn h; cases hn
    · intro C X G lv N sc xo ex h; cases invT h
    · intro C X G lv N sc xo op es p h; cases invW h
    · intro C X G lv N sc xo ex h; cases invL h
    · intro C X G lv N sc xo xs ys h; cases invA h
    · intro C X G lv N sc xo xs ys h; cases invA h
    · intro C X G lv N sc xo ex h; cases invAr h
    · intro C X G lv N sc xo ex h; cases invO h
    · intro C X G lv N sc xo l r op p h; cases invC h
    · intro C X G lv N sc xo a e he h; cases he
    · intro C X G lv N sc xo wk it tg h; cases invI h
  | bin o a b iha ihb =>
    refine ⟨?_, ?_, ?_, ?_, ?_, ?_, ?_, ?_, ?_, ?_, ?_, ?_, ?_⟩
    · intro C X G lv N sc xo ys h; cases invJ h
    · intro C X G lv N sc xo ex h; replace h := ckE_inv h; obtain ⟨_, _, _, _, rfl, h⟩ := h
      simp only [Bool.and_eq_true, decide_eq_true_eq] at h
      rw [ckB_eq h.1.1]
      exact r_bin xo.K (iha.e xo h.1.2) (ihb.e xo h.2)
    · intro C X G lv N sc xo ex hn h
      cases o <;> first | (cases hn; done) | skip
      replace h := ckE_inv h; obtain ⟨_, _, _, _, rfl, h⟩ := h
      simp only [Bool.and_eq_true, decide_eq_true_eq] at h
      rw [ckB_eq h.1.1]
      exact r_catN (iha.e xo h.1.2) (ihb.e xo h.2)
    · intro C X G lv N sc xo ex h; cases invT h
    · intro C X G lv N sc xo op es p h; cases invW h
    · intro C X G lv N sc xo ex h; cases invL h
    · intro C X G lv N sc xo xs ys h; cases invA h
    · intro C X G lv N sc xo xs ys h; cases invA h
    · intro C X G lv N sc xo ex h; cases invAr h
    · intro C X G lv N sc xo ex h; cases invO h
    · intro C X G lv N sc xo l r op p h; cases invC h
    · intro C X G lv N sc xo a e he h; cases he
    · intro C X G lv N sc xo wk it tg h; cases invI h
  | neg a ih =>
    refine ⟨?_, ?_, ?_, ?_, ?_, ?_, ?_, ?_, ?_, ?_, ?_, ?_, ?_⟩
    · intro C X G lv N sc xo ys h; cases invJ h
    · intro C X G lv N sc xo ex h; replace h := ckE_inv h; obtain ⟨_, _, rfl, h⟩ := h
      exact r_neg (ih.e xo h)
    · intro C X G lv N sc xo ex hn h; cases hn
    · intro C X G lv N sc xo ex h; cases invT h
    · intro C X G lv N sc xo op es p h; cases invW h
    · intro C X G lv N sc xo ex h; cases invL h
    · intro C X G lv N sc xo xs ys h; cases invA h
    · intro C X G lv N sc xo xs ys h; cases invA h
    · intro C X G lv N sc xo ex h; cases invAr h
    · intro C X G lv N sc xo ex h; cases invO h
    · intro C X G lv N sc xo l r op p h; cases invC h
    · intro C X G lv N sc xo a e he h; cases he
    · intro C X G lv N sc xo wk it tg h; cases invI h
  | cmp o a b iha ihb =>
    refine ⟨?_, ?_, ?_, ?_, ?_, ?_, ?_, ?_, ?_, ?_, ?_, ?_, ?_⟩
    · intro C X G lv N sc xo ys h; cases invJ h
    · intro C X G lv N sc xo ex h; replace h := ckE_inv h; obtain ⟨_, _, _, _, rfl, h⟩ := h
      simp only [Bool.and_eq_true, decide_eq_true_eq] at h
      rw [ckC_eq h.1.1]
      exact r_cmp xo.K xo.hu (iha.e xo h.1.2) (ihb.e xo h.2) (nomk _ h.2)
    · intro C X G lv N sc xo ex hn h; cases hn
    · intro C X G lv N sc xo ex h; cases invT h
    · intro C X G lv N sc xo op es p h; cases invW h
    · intro C X G lv N sc xo ex h; cases invL h
    · intro C X G lv N sc xo xs ys h; cases invA h
    · intro C X G lv N sc xo xs ys h; cases invA h
    · intro C X G lv N sc xo ex h; cases invAr h
    · intro C X G lv N sc xo ex h; cases invO h
    · intro C X G lv N sc xo l r op p h; rw [ckE] at h; rw [Bool.and_eq_true, Bool.and_eq_true] at h; rw [ckC_eq h.1.1]; exact r_tcmp xo.K xo.hu (iha.e xo h.1.2) (ihb.e xo h.2) (nomk _ h.2)
    · intro C X G lv N sc xo a e he h; cases he
    · intro C X G lv N sc xo wk it tg h; cases invI h
  | vand a b iha ihb =>
    refine ⟨?_, ?_, ?_, ?_, ?_, ?_, ?_, ?_, ?_, ?_, ?_, ?_, ?_⟩
    · intro C X G lv N sc xo ys h; cases invJ h
    · intro C X G lv N sc xo ex h; replace h := ckE_inv h; obtain ⟨_, _, _, _, rfl, h⟩ := h
      rw [Bool.and_eq_true] at h
      exact r_vand (iha.e xo h.1) (r_pand ihb xo h.2)
    · intro C X G lv N sc xo ex hn h; cases hn
    · intro C X G lv N sc xo ex h; cases invT h
    · intro C X G lv N sc xo op es p h; cases invW h
    · intro C X G lv N sc xo ex h; cases invL h
    · intro C X G lv N sc xo xs ys h; cases invA h
    · intro C X G lv N sc xo xs ys h; cases invA h
    · intro C X G lv N sc xo ex h; cases invAr h
    · intro C X G lv N sc xo ex h; cases invO h
    · intro C X G lv N sc xo l r op p h; cases invC h
    · intro C X G lv N sc xo a e he h; cases he
    · intro C X G lv N sc xo wk it tg h; cases invI h
  | vor a b iha ihb =>
    refine ⟨?_, ?_, ?_, ?_, ?_, ?_, ?_, ?_, ?_, ?_, ?_, ?_, ?_⟩
    · intro C X G lv N sc xo ys h; cases invJ h
    · intro C X G lv N sc xo ex h; replace h := ckE_inv h; obtain ⟨_, _, _, _, rfl, h⟩ := h
      rw [Bool.and_eq_true] at h
      exact r_vor (iha.e xo h.1) (r_por ihb xo h.2)
    · intro C X G lv N sc xo ex hn h; cases hn
    · intro C X G lv N sc xo ex h; cases invT h
    · intro C X G lv N sc xo op es p h; cases invW h
    · intro C X G lv N sc xo ex h; cases invL h
    · intro C X G lv N sc xo xs ys h; cases invA h
    · intro C X G lv N sc xo xs ys h; cases invA h
    · intro C X G lv N sc xo ex h; cases invAr h
    · intro C X G lv N sc xo ex h; cases invO h
    · intro C X G lv N sc xo l r op p h; cases invC h
    · intro C X G lv N sc xo a e he h; cases he
    · intro C X G lv N sc xo wk it tg h; cases invI h
  | vnot a ih =>
    refine ⟨?_, ?_, ?_, ?_, ?_, ?_, ?_, ?_, ?_, ?_, ?_, ?_, ?_⟩
    · intro C X G lv N sc xo ys h; cases invJ h
    · intro C X G lv N sc xo ex h; replace h := ckE_inv h; obtain ⟨_, _, rfl, h⟩ := h
      exact r_vnot (ih.e xo h)
    · intro C X G lv N sc xo ex hn h; cases hn
    · intro C X G lv N sc xo ex h; cases invT h
    · intro C X G lv N sc xo op es p h; cases invW h
    · intro C X G lv N sc xo ex h; cases invL h
    · intro C X G lv N sc xo xs ys h; cases invA h
    · intro C X G lv N sc xo xs ys h; cases invA h
    · intro C X G lv N sc xo ex h; cases invAr h
    · intro C X G lv N sc xo ex h; cases invO h
    · intro C X G lv N sc xo l r op p h; cases invC h
    · intro C X G lv N sc xo a e he h; cases he
    · intro C X G lv N sc xo wk it tg h; cases invI h
  | tand a b iha ihb =>
    refine ⟨?_, ?_, ?_, ?_, ?_, ?_, ?_, ?_, ?_, ?_, ?_, ?_, ?_⟩
    · intro C X G lv N sc xo ys h; cases invJ h
    · intro C X G lv N sc xo ex h; exact (ckE_inv h).elim
    · intro C X G lv N sc xo ex hn h; cases hn
    · intro C X G lv N sc xo ex h; unfold ckT at h; split at h <;> first | (cases h; done) | (rename_i hq; cases hq; done) | (rename_i hq _; cases hq; done) | skip
      rename_i hq; cases hq
      rw [Bool.and_eq_true] at h
      exact (r_tand (iha.t xo h.1) (r_wand ihb xo h.2)).pt
    · intro C X G lv N sc xo op es p h; unfold ckT at h; split at h <;> first | (cases h; done) | (rename_i hq _; cases hq; done) | (rename_i hq; cases hq; done) | skip
      rename_i hq hq2; cases hq; cases hq2
      rw [Bool.and_eq_true] at h
      exact r_tand (iha.t xo h.1) (r_wand ihb xo h.2)
    · intro C X G lv N sc xo ex h; cases invL h
    · intro C X G lv N sc xo xs ys h; cases invA h
    · intro C X G lv N sc xo xs ys h; cases invA h
    · intro C X G lv N sc xo ex h; cases invAr h
    · intro C X G lv N sc xo ex h; cases invO h
    · intro C X G lv N sc xo l r op p h; cases invC h
    · intro C X G lv N sc xo a e he h; cases he
    · intro C X G lv N sc xo wk it tg h; cases invI h
  | tor a b iha ihb =>
    refine ⟨?_, ?_, ?_, ?_, ?_, ?_, ?_, ?_, ?_, ?_, ?_, ?_, ?_⟩
    · intro C X G lv N sc xo ys h; cases invJ h
    · intro C X G lv N sc xo ex h; exact (ckE_inv h).elim
    · intro C X G lv N sc xo ex hn h; cases hn
    · intro C X G lv N sc xo ex h; unfold ckT at h; split at h <;> first | (cases h; done) | (rename_i hq; cases hq; done) | (rename_i hq _; cases hq; done) | skip
      rename_i hq; cases hq
      rw [Bool.and_eq_true] at h
      exact (r_tor (iha.t xo h.1) (r_wor ihb xo h.2)).pt
    · intro C X G lv N sc xo op es p h; unfold ckT at h; split at h <;> first | (cases h; done) | (rename_i hq _; cases hq; done) | (rename_i hq; cases hq; done) | skip
      rename_i hq hq2; cases hq; cases hq2
      rw [Bool.and_eq_true] at h
      exact r_tor (iha.t xo h.1) (r_wor ihb xo h.2)
    · intro C X G lv N sc xo ex h; cases invL h
    · intro C X G lv N sc xo xs ys h; cases invA h
    · intro C X G lv N sc xo xs ys h; cases invA h
    · intro C X G lv N sc xo ex h; cases invAr h
    · intro C X G lv N sc xo ex h; cases invO h
    · intro C X G lv N sc xo l r op p h; cases invC h
    · intro C X G lv N sc xo a e he h; cases he
    · intro C X G lv N sc xo wk it tg h; cases invI h
  | tnot a ih =>
    refine ⟨?_, ?_, ?_, ?_, ?_, ?_, ?_, ?_, ?_, ?_, ?_, ?_, ?_⟩
    · intro C X G lv N sc xo ys h; cases invJ h
    · intro C X G lv N sc xo ex h; exact (ckE_inv h).elim
    · intro C X G lv N sc xo ex hn h; cases hn
    · intro C X G lv N sc xo ex h; unfold ckT at h; split at h <;> first | (cases h; done) | (rename_i hq; cases hq; done) | (rename_i hq _; cases hq; done) | skip
      rename_i hq; cases hq
      exact r_tnot (ih.t xo h)
    · intro C X G lv N sc xo op es p h; cases invW h
    · intro C X G lv N sc xo ex h; cases invL h
    · intro C X G lv N sc xo xs ys h; cases invA h
    · intro C X G lv N sc xo xs ys h; cases invA h
    · intro C X G lv N sc xo ex h; cases invAr h
    · intro C X G lv N sc xo ex h; cases invO h
    · intro C X G lv N sc xo l r op p h; cases invC h
    · intro C X G lv N sc xo a e he h; cases he
    · intro C X G lv N sc xo wk it tg h; cases invI h
  | tvar i =>
    refine ⟨?_, ?_, ?_, ?_, ?_, ?_, ?_, ?_, ?_, ?_, ?_, ?_, ?_⟩
    · intro C X G lv N sc xo ys h; cases invJ h
    · intro C X G lv N sc xo ex h; exact (ckE_inv h).elim
    · intro C X G lv N sc xo ex hn h; cases hn
    · intro C X G lv N sc xo ex h; unfold ckT at h; split at h <;> first | (cases h; done) | (rename_i hq; cases hq; done) | (rename_i hq _; cases hq; done) | skip
      rename_i hq; cases hq
      obtain ⟨h1, h2, h3, h4⟩ := nmOk xo h
      exact r_tvar xo.K h1 h2 h3 h4
    · intro C X G lv N sc xo op es p h; cases invW h
    · intro C X G lv N sc xo ex h; cases invL h
    · intro C X G lv N sc xo xs ys h; cases invA h
    · intro C X G lv N sc xo xs ys h; cases invA h
    · intro C X G lv N sc xo ex h; cases invAr h
    · intro C X G lv N sc xo ex h; cases invO h
    · intro C X G lv N sc xo l r op p h; cases invC h
    · intro C X G lv N sc xo a e he h; cases he
    · intro C X G lv N sc xo wk it tg h; cases invI h
  | tval a ih =>
    refine ⟨?_, ?_, ?_, ?_, ?_, ?_, ?_, ?_, ?_, ?_, ?_, ?_, ?_⟩
    · intro C X G lv N sc xo ys h; cases invJ h
    · intro C X G lv N sc xo ex h; exact (ckE_inv h).elim
    · intro C X G lv N sc xo ex hn h; cases hn
    · intro C X G lv N sc xo ex h; unfold ckT at h; split at h <;> first | (cases h; done) | (rename_i hq; cases hq; done) | (rename_i hq _; cases hq; done) | skip
      · rename_i hq; cases hq
        simp only [Bool.and_eq_true] at h
        exact r_tvcmp xo ih h.1.1 h.1.2 h.2
      · rename_i hq _; cases hq
        rw [Bool.and_eq_true] at h
        exact r_tval xo.K h.1 (ih.e xo h.2)
    · intro C X G lv N sc xo op es p h; unfold ckT at h; first | (cases h; done) | (split at h <;> first | (cases h; done) | (rename_i hq _; cases hq; done) | (rename_i hq; cases hq; done) | (rename_i hq; cases hq; simp [plain] at h; done) | (simp [plain] at h; done))
    · intro C X G lv N sc xo ex h; cases invL h
    · intro C X G lv N sc xo xs ys h; cases invA h
    · intro C X G lv N sc xo xs ys h; cases invA h
    · intro C X G lv N sc xo ex h; rw [ckAr] at h; exact .val (ih.e xo h)
    · intro C X G lv N sc xo ex h; cases ex with | none => (rw [ckO] at h <;> first | (cases h; done) | (intros; contradiction)) | some e => (rw [ckO] at h; exact r_osome (ih.e xo h))
    · intro C X G lv N sc xo l r op p h; cases invC h
    · intro C X G lv N sc xo a e he h; cases he
    · intro C X G lv N sc xo wk it tg h; cases invI h
  | tyes =>
    refine ⟨?_, ?_, ?_, ?_, ?_, ?_, ?_, ?_, ?_, ?_, ?_, ?_, ?_⟩
    · intro C X G lv N sc xo ys h; cases invJ h
    · intro C X G lv N sc xo ex h; exact (ckE_inv h).elim
    · intro C X G lv N sc xo ex hn h; cases hn
    · intro C X G lv N sc xo ex h; cases invT h
    · intro C X G lv N sc xo op es p h; cases invW h
    · intro C X G lv N sc xo ex h; cases invL h
    · intro C X G lv N sc xo xs ys h; cases invA h
    · intro C X G lv N sc xo xs ys h; cases invA h
    · intro C X G lv N sc xo ex h; cases invAr h
    · intro C X G lv N sc xo ex h; cases invO h
    · intro C X G lv N sc xo l r op p h; cases invC h
    · intro C X G lv N sc xo a e he h; cases he
    · intro C X G lv N sc xo wk it tg h; cases invI h
  | ite c a b ihc iha ihb =>
    refine ⟨?_, ?_, ?_, ?_, ?_, ?_, ?_, ?_, ?_, ?_, ?_, ?_, ?_⟩
    · intro C X G lv N sc xo ys h; cases invJ h
    · intro C X G lv N sc xo ex h; replace h := ckE_inv h; obtain ⟨_, _, _, _, rfl, h⟩ := h
      simp only [Bool.and_eq_true, decide_eq_true_eq] at h
      exact r_ite (ihc.t xo h.1.1) (iha.e xo h.1.2) (ihb.e xo h.2)
    · intro C X G lv N sc xo ex hn h; cases hn
    · intro C X G lv N sc xo ex h; cases invT h
    · intro C X G lv N sc xo op es p h; cases invW h
    · intro C X G lv N sc xo ex h; cases invL h
    · intro C X G lv N sc xo xs ys h; cases invA h
    · intro C X G lv N sc xo xs ys h; cases invA h
    · intro C X G lv N sc xo ex h; cases invAr h
    · intro C X G lv N sc xo ex h; cases invO h
    · intro C X G lv N sc xo l r op p h; cases invC h
    · intro C X G lv N sc xo a e he h; cases he
    · intro C X G lv N sc xo wk it tg h; cases invI h
  | tup es ih =>
    refine ⟨?_, ?_, ?_, ?_, ?_, ?_, ?_, ?_, ?_, ?_, ?_, ?_, ?_⟩
    · intro C X G lv N sc xo ys h; cases invJ h
    · intro C X G lv N sc xo ex h; replace h := ckE_inv h; obtain ⟨_, _, _, rfl, h⟩ := h
      exact r_tup (ih.l xo h)
    · intro C X G lv N sc xo ex hn h; cases hn
    · intro C X G lv N sc xo ex h; cases invT h
    · intro C X G lv N sc xo op es p h; cases invW h
    · intro C X G lv N sc xo ex h; cases invL h
    · intro C X G lv N sc xo xs ys h; cases invA h
    · intro C X G lv N sc xo xs ys h; cases invA h
    · intro C X G lv N sc xo ex h; cases invAr h
    · intro C X G lv N sc xo ex h; cases invO h
    · intro C X G lv N sc xo l r op p h; cases invC h
    · intro C X G lv N sc xo a e he h; cases he
    · intro C X G lv N sc xo wk it tg h; cases invI h
  | lst es ih =>
    refine ⟨?_, ?_, ?_, ?_, ?_, ?_, ?_, ?_, ?_, ?_, ?_, ?_, ?_⟩
    · intro C X G lv N sc xo ys h; cases invJ h
    · intro C X G lv N sc xo ex h; replace h := ckE_inv h; obtain ⟨_, _, rfl, h⟩ := h
      exact nE (fun _ _ _ h => ev_lst_is h) (r_lst (ih.l xo h))
    · intro C X G lv N sc xo ex hn h; replace h := ckE_inv h; obtain ⟨_, _, rfl, h⟩ := h
      exact r_lst (ih.l xo h)
    · intro C X G lv N sc xo ex h; cases invT h
    · intro C X G lv N sc xo op es p h; cases invW h
    · intro C X G lv N sc xo ex h; cases invL h
    · intro C X G lv N sc xo xs ys h; cases invA h
    · intro C X G lv N sc xo xs ys h; cases invA h
    · intro C X G lv N sc xo ex h; cases invAr h
    · intro C X G lv N sc xo ex h; cases invO h
    · intro C X G lv N sc xo l r op p h; cases invC h
    · intro C X G lv N sc xo a e he h; cases he
    · intro C X G lv N sc xo wk it tg h; cases invI h
  | nil =>
    refine ⟨?_, ?_, ?_, ?_, ?_, ?_, ?_, ?_, ?_, ?_, ?_, ?_, ?_⟩
    · intro C X G lv N sc xo ys h
      cases ys with
      | nil => exact ⟨[], .nil, fun acc σ H Q h => j_nil h⟩
      | cons _ _ => (rw [ckJ] at h <;> first | (cases h; done) | (intros; contradiction))
    · intro C X G lv N sc xo ex h; exact (ckE_inv h).elim
    · intro C X G lv N sc xo ex hn h; cases hn
    · intro C X G lv N sc xo ex h; cases invT h
    · intro C X G lv N sc xo op es p h; cases invW h
    · intro C X G lv N sc xo ex h; cases ex with | nil => exact r_nil | cons _ _ => (rw [ckL] at h <;> first | (cases h; done) | (intros; contradiction))
    · intro C X G lv N sc xo xs ys h; cases xs with | nil => exact r_anil | cons _ _ => (rw [List.cons_append, ckA] at h <;> first | (cases h; done) | (intros; contradiction))
    · intro C X G lv N sc xo xs ys h; cases xs with
      | nil => cases ys with
        | nil => exact r_knil
        | cons _ _ => (rw [List.nil_append, List.map_cons, ckA] at h <;> first | (cases h; done) | (intros; contradiction))
      | cons _ _ => (rw [List.cons_append, ckA] at h <;> first | (cases h; done) | (intros; contradiction))
    · intro C X G lv N sc xo ex h; cases invAr h
    · intro C X G lv N sc xo ex h; cases ex with | none => exact r_onone | some _ => (rw [ckO] at h <;> first | (cases h; done) | (intros; contradiction))
    · intro C X G lv N sc xo l r op p h; cases invC h
    · intro C X G lv N sc xo a e he h; cases he
    · intro C X G lv N sc xo wk it tg h; cases invI h
  | cons e es ihe ihs =>
    refine ⟨?_, ?_, ?_, ?_, ?_, ?_, ?_, ?_, ?_, ?_, ?_, ?_, ?_⟩
    · intro C X G lv N sc xo ys h
      unfold ckJ at h
      split at h <;> first | (cases h; done) | (rename_i hq; cases hq; done) | (rename_i hq _; cases hq; done) | skip
      · rename_i hq; cases hq
        simp only [Bool.and_eq_true, decide_eq_true_eq] at h
        obtain ⟨⟨rfl, h1⟩, h2⟩ := h
        obtain ⟨ts, g1, g2⟩ := ihs.j xo h2
        exact ⟨_, .cons (pe_fmt (ihe.e xo h1)) g1, fun acc σ H Q h => j_fmt g2 h⟩
      · rename_i hq; cases hq
        simp only [Bool.and_eq_true, decide_eq_true_eq] at h
        obtain ⟨rfl, h2⟩ := h
        obtain ⟨ts, g1, g2⟩ := ihs.j xo h2
        exact ⟨_, .cons pe_str g1, fun acc σ H Q h => j_con g2 h⟩
    · intro C X G lv N sc xo ex h; exact (ckE_inv h).elim
    · intro C X G lv N sc xo ex hn h; cases hn
    · intro C X G lv N sc xo ex h; cases invT h
    · intro C X G lv N sc xo op es p h; cases invW h
    · intro C X G lv N sc xo ex h; cases ex with
      | nil => (rw [ckL] at h <;> first | (cases h; done) | (intros; contradiction))
      | cons y ys =>
        rw [ckL] at h
        simp only [Bool.and_eq_true] at h
        exact r_cons h.1.1 (ihe.e xo h.1.2) (ihs.l xo h.2)
    · intro C X G lv N sc xo xs ys h; cases xs with
      | nil => exact r_anil
      | cons y zs =>
        rw [List.cons_append, ckA] at h
        simp only [Bool.and_eq_true] at h
        cases ihe.r xo h.1.2 with
        | ref h1 h2 h3 h4 => exact r_acons_ref h1 h2 h3 h4 (ihs.a xo h.2)
        | val h1 => exact r_acons h.1.1 h1 (ihs.a xo h.2)
    · intro C X G lv N sc xo xs ys h; cases xs with
      | nil =>
        cases ys with
        | nil => (rw [List.nil_append, List.map_nil, ckA] at h <;> first | (cases h; done) | (intros; contradiction))
        | cons k ks =>
          obtain ⟨nm, v, kp⟩ := k
          rw [List.nil_append, List.map_cons, ckA] at h
          simp only [Bool.and_eq_true] at h
          have hk := ihs.k xo (xs := []) (ys := ks) h.2
          cases ihe.r xo h.1.2 with
          | ref h1 h2 h3 h4 => exact r_kcons_ref h1 h2 h3 h4 hk
          | val h1 => exact r_kcons h1 hk
      | cons y zs =>
        rw [List.cons_append, ckA] at h
        simp only [Bool.and_eq_true] at h
        exact ihs.k xo h.2
    · intro C X G lv N sc xo ex h; cases invAr h
    · intro C X G lv N sc xo ex h; cases invO h
    · intro C X G lv N sc xo l r op p h; cases invC h
    · intro C X G lv N sc xo a e he h; cases he; exact ihe.e xo h
    · intro C X G lv N sc xo wk it tg h; unfold ckI at h; split at h <;> first | (cases h; done) | skip
      · rename_i hq; cases hq
        rw [Bool.and_eq_true] at h
        exact ⟨r_seq xo.K (ihe.e xo h.2), h.1⟩
      · rename_i hq; cases hq
        simp only [Bool.and_eq_true, decide_eq_true_eq] at h
        obtain ⟨⟨⟨⟨⟨⟨rfl, h1⟩, h2⟩, h3⟩, h4⟩, h5⟩, h6⟩ := h
        exact ⟨r_zipP xo.K (xo.gl _ h1) (xo.bl _ h2) h3 h4 (ihe.e xo h5) (ihs.l xo (by simp [ckL, h4, h6])), rfl⟩
      · rename_i hq; cases hq
        simp only [Bool.and_eq_true, decide_eq_true_eq] at h
        obtain ⟨⟨⟨⟨rfl, h1⟩, h2⟩, h3⟩, h5⟩ := h
        exact ⟨r_enum xo.K (xo.gl _ h1) (xo.bl _ h2) h3 (ihe.e xo h5), rfl⟩
      · rename_i hq; cases hq
        simp only [Bool.and_eq_true, decide_eq_true_eq] at h
        obtain ⟨⟨⟨⟨⟨⟨⟨rfl, h1⟩, h2⟩, rfl⟩, rfl⟩, hk⟩, h3⟩, h5⟩ := h
        exact ⟨r_enumS hk xo.K (xo.gl _ h1) (xo.bl _ h2) h3 (ihe.e xo h5), rfl⟩
      · rename_i hq; cases hq
        simp only [Bool.and_eq_true, decide_eq_true_eq] at h
        obtain ⟨⟨⟨⟨rfl, h1⟩, h2⟩, h3⟩, h5⟩ := h
        exact ⟨r_rng (xo.gl _ h1) (xo.bl _ h2) h3 (ihe.e xo h5), rfl⟩
  | ref i =>
    refine ⟨?_, ?_, ?_, ?_, ?_, ?_, ?_, ?_, ?_, ?_, ?_, ?_, ?_⟩
    · intro C X G lv N sc xo ys h; cases invJ h
    · intro C X G lv N sc xo ex h; exact (ckE_inv h).elim
    · intro C X G lv N sc xo ex hn h; cases hn
    · intro C X G lv N sc xo ex h; cases invT h
    · intro C X G lv N sc xo op es p h; cases invW h
    · intro C X G lv N sc xo ex h; cases invL h
    · intro C X G lv N sc xo xs ys h; cases invA h
    · intro C X G lv N sc xo xs ys h; cases invA h
    · intro C X G lv N sc xo ex h; unfold ckAr at h; split at h <;> first | (cases h; done) | (rename_i hq; cases hq; done) | (rename_i hq _; cases hq; done) | skip
      rename_i hq; cases hq
      obtain ⟨h1, h2, h3, h4⟩ := nmOk xo h
      exact .ref h1 h2 h3 h4
    · intro C X G lv N sc xo ex h; cases invO h
    · intro C X G lv N sc xo l r op p h; cases invC h
    · intro C X G lv N sc xo a e he h; cases he
    · intro C X G lv N sc xo wk it tg h; cases invI h
  | ix a i iha ihb =>
    refine ⟨?_, ?_, ?_, ?_, ?_, ?_, ?_, ?_, ?_, ?_, ?_, ?_, ?_⟩
    · intro C X G lv N sc xo ys h; cases invJ h
    · intro C X G lv N sc xo ex h; replace h := ckE_inv h; obtain ⟨_, _, _, rfl, h⟩ := h
      simp only [Bool.and_eq_true, decide_eq_true_eq] at h
      exact r_ix xo.K h.1.1 (iha.e xo h.1.2) (ihb.e xo h.2)
    · intro C X G lv N sc xo ex hn h; cases hn
    · intro C X G lv N sc xo ex h; cases invT h
    · intro C X G lv N sc xo op es p h; cases invW h
    · intro C X G lv N sc xo ex h; cases invL h
    · intro C X G lv N sc xo xs ys h; cases invA h
    · intro C X G lv N sc xo xs ys h; cases invA h
    · intro C X G lv N sc xo ex h; cases invAr h
    · intro C X G lv N sc xo ex h; cases invO h
    · intro C X G lv N sc xo l r op p h; cases invC h
    · intro C X G lv N sc xo a e he h; cases he
    · intro C X G lv N sc xo wk it tg h; cases invI h
  | slc a lo hi iha ihb ihc =>
    refine ⟨?_, ?_, ?_, ?_, ?_, ?_, ?_, ?_, ?_, ?_, ?_, ?_, ?_⟩
    · intro C X G lv N sc xo ys h; cases invJ h
    · intro C X G lv N sc xo ex h; replace h := ckE_inv h; obtain ⟨_, _, _, _, _, rfl, h⟩ := h
      simp only [Bool.and_eq_true, decide_eq_true_eq] at h
      exact r_slc xo.K (iha.e xo h.1.1) (ihb.o xo h.1.2) (ihc.o xo h.2)
    · intro C X G lv N sc xo ex hn h; cases hn
    · intro C X G lv N sc xo ex h; cases invT h
    · intro C X G lv N sc xo op es p h; cases invW h
    · intro C X G lv N sc xo ex h; cases invL h
    · intro C X G lv N sc xo xs ys h; cases invA h
    · intro C X G lv N sc xo xs ys h; cases invA h
    · intro C X G lv N sc xo ex h; cases invAr h
    · intro C X G lv N sc xo ex h; cases invO h
    · intro C X G lv N sc xo l r op p h; cases invC h
    · intro C X G lv N sc xo a e he h; cases he
    · intro C X G lv N sc xo wk it tg h; cases invI h
  | rev a ih =>
    refine ⟨?_, ?_, ?_, ?_, ?_, ?_, ?_, ?_, ?_, ?_, ?_, ?_, ?_⟩
    · intro C X G lv N sc xo ys h; cases invJ h
    · intro C X G lv N sc xo ex h; replace h := ckE_inv h; obtain ⟨_, _, _, _, _, _, _, rfl, h⟩ := h
      simp only [Bool.and_eq_true, decide_eq_true_eq] at h
      obtain ⟨rfl, h2⟩ := h
      exact r_rev xo.K (ih.e xo h2)
    · intro C X G lv N sc xo ex hn h; cases hn
    · intro C X G lv N sc xo ex h; cases invT h
    · intro C X G lv N sc xo op es p h; cases invW h
    · intro C X G lv N sc xo ex h; cases invL h
    · intro C X G lv N sc xo xs ys h; cases invA h
    · intro C X G lv N sc xo xs ys h; cases invA h
    · intro C X G lv N sc xo ex h; cases invAr h
    · intro C X G lv N sc xo ex h; cases invO h
    · intro C X G lv N sc xo l r op p h; cases invC h
    · intro C X G lv N sc xo a e he h; cases he
    · intro C X G lv N sc xo wk it tg h; cases invI h
  | call f pm es ih =>
    refine ⟨?_, ?_, ?_, ?_, ?_, ?_, ?_, ?_, ?_, ?_, ?_, ?_, ?_⟩
    · intro C X G lv N sc xo ys h; cases invJ h
    · intro C X G lv N sc xo ex h; replace h := ckE_inv h; obtain ⟨_, _, _, _, _, rfl, h⟩ := h
      rw [Bool.and_eq_true, Bool.and_eq_true, Bool.and_eq_true, Bool.and_eq_true] at h
      obtain ⟨⟨⟨⟨h0, h1⟩, h2⟩, h3⟩, h4⟩ := h
      have h0 := of_decide_eq_true h0
      subst h0
      exact r_callA xo ih h1 h2 h3 h4
    · intro C X G lv N sc xo ex hn h; cases hn
    · intro C X G lv N sc xo ex h; cases invT h
    · intro C X G lv N sc xo op es p h; cases invW h
    · intro C X G lv N sc xo ex h; cases invL h
    · intro C X G lv N sc xo xs ys h; cases invA h
    · intro C X G lv N sc xo xs ys h; cases invA h
    · intro C X G lv N sc xo ex h; cases invAr h
    · intro C X G lv N sc xo ex h; cases invO h
    · intro C X G lv N sc xo l r op p h; cases invC h
    · intro C X G lv N sc xo a e he h; cases he
    · intro C X G lv N sc xo wk it tg h; cases invI h
  | calln f g es ih =>
    refine ⟨?_, ?_, ?_, ?_, ?_, ?_, ?_, ?_, ?_, ?_, ?_, ?_, ?_⟩
    · intro C X G lv N sc xo ys h; cases invJ h
    · intro C X G lv N sc xo ex h; replace h := ckE_inv h; obtain ⟨_, _, _, _, _, _, _, _, rfl, h⟩ := h
      simp only [Bool.and_eq_true, decide_eq_true_eq] at h
      obtain ⟨⟨⟨⟨⟨⟨⟨⟨rfl, h1⟩, h2⟩, rfl⟩, h4⟩, h5⟩, h6⟩, h7⟩, h8⟩ := h
      have hn := ckL_nst h8
      simp only [List.all_cons, Bool.and_eq_true] at hn
      split at h6
      · rename_i n kf hf
        exact r_calln xo hf (of_decide_eq_true h6) h7 (xo.gl _ h1) (okN_of h2).1 (xo.gl _ h4) (okN_of h5).1 hn.1 hn.2 (ih.l xo h8) fun env as env' e => ckL_len h8 e
      · cases h6
    · intro C X G lv N sc xo ex hn h; cases hn
    · intro C X G lv N sc xo ex h; cases invT h
    · intro C X G lv N sc xo op es p h; cases invW h
    · intro C X G lv N sc xo ex h; cases invL h
    · intro C X G lv N sc xo xs ys h; cases invA h
    · intro C X G lv N sc xo xs ys h; cases invA h
    · intro C X G lv N sc xo ex h; cases invAr h
    · intro C X G lv N sc xo ex h; cases invO h
    · intro C X G lv N sc xo l r op p h; cases invC h
    · intro C X G lv N sc xo a e he h; cases he
    · intro C X G lv N sc xo wk it tg h; cases invI h
  | lrng a ih =>
    refine ⟨?_, ?_, ?_, ?_, ?_, ?_, ?_, ?_, ?_, ?_, ?_, ?_, ?_⟩
    · intro C X G lv N sc xo ys h; cases invJ h
    · intro C X G lv N sc xo ex h; replace h := ckE_inv h; obtain ⟨_, _, _, _, _, _, _, rfl, h⟩ := h
      simp only [Bool.and_eq_true, decide_eq_true_eq] at h
      obtain ⟨⟨⟨⟨⟨⟨⟨rfl, h1⟩, h2⟩, rfl⟩, h4⟩, h5⟩, h6⟩, h7⟩ := h
      exact r_lrng xo (xo.gl _ h1) (xo.bl _ h2) (xo.gl _ h4) (xo.bl _ h5) h6 (ih.e xo h7)
    · intro C X G lv N sc xo ex hn h; cases hn
    · intro C X G lv N sc xo ex h; cases invT h
    · intro C X G lv N sc xo op es p h; cases invW h
    · intro C X G lv N sc xo ex h; cases invL h
    · intro C X G lv N sc xo xs ys h; cases invA h
    · intro C X G lv N sc xo xs ys h; cases invA h
    · intro C X G lv N sc xo ex h; cases invAr h
    · intro C X G lv N sc xo ex h; cases invO h
    · intro C X G lv N sc xo l r op p h; cases invC h
    · intro C X G lv N sc xo a e he h; cases he
    · intro C X G lv N sc xo wk it tg h; cases invI h
  | blt f es ih =>
    refine ⟨?_, ?_, ?_, ?_, ?_, ?_, ?_, ?_, ?_, ?_, ?_, ?_, ?_⟩
    · intro C X G lv N sc xo ys h; cases invJ h
    · intro C X G lv N sc xo ex h; replace h := ckE_inv h; obtain ⟨_, _, _, _, _, rfl, h⟩ := h
      exact r_bltAll xo h ih
    · intro C X G lv N sc xo ex hn h; cases hn
    · intro C X G lv N sc xo ex h; cases invT h
    · intro C X G lv N sc xo op es p h; cases invW h
    · intro C X G lv N sc xo ex h; cases invL h
    · intro C X G lv N sc xo xs ys h; cases invA h
    · intro C X G lv N sc xo xs ys h; cases invA h
    · intro C X G lv N sc xo ex h; cases invAr h
    · intro C X G lv N sc xo ex h; cases invO h
    · intro C X G lv N sc xo l r op p h; cases invC h
    · intro C X G lv N sc xo a e he h; cases he
    · intro C X G lv N sc xo wk it tg h; cases invI h
  | comp w src tg cd el own ihs ihc ihe =>
    have hn : ∀ {C : Ctx} {X : Cx} {G : GS} {lv : Nat} {N : List PySem.Str} {sc : Scope} (_ : XOk X C G lv N sc) {ex : Expr}, ckE G N sc (.comp w src tg cd el own) ex = true → PE X ex (tN C (.comp w src tg cd el own)) := by
      intro C X G lv N sc xo ex h; replace h := ckE_inv h; obtain ⟨_, _, _, _, _, _, rfl, h⟩ := h
      rw [Bool.and_eq_true, Bool.and_eq_true, Bool.and_eq_true, Bool.and_eq_true, Bool.and_eq_true] at h
      obtain ⟨⟨⟨⟨⟨h1, h2⟩, h3⟩, h4⟩, h5⟩, h6⟩ := h
      have hk := (blkOk_by h3).kind
      have hi := ihs.i xo h1
      refine r_comp xo hi.1 (blk_of xo h3) (map_own _ _) (fun s H Cc cl fp => pg_B fun B0 => r_tg (xo.blk hk s H Cc cl fp).at h2) (fun s H Cc cl fp => ?_) (fun s H Cc cl fp => pe_B fun B0 => ihe.e (xo.blk hk s H Cc cl fp).at h6) (folded hi.2) (fun i hi => of_decide_eq_true (List.all_eq_true.mp h4 i hi)) (len_E _ _) (len_E _ _)
      exact r_ifs (xo.blk hk s H Cc cl fp) h5 ihc
    refine ⟨?_, ?_, ?_, ?_, ?_, ?_, ?_, ?_, ?_, ?_, ?_, ?_, ?_⟩
    · intro C X G lv N sc xo ys h; cases invJ h
    · intro C X G lv N sc xo ex h; exact nE (fun _ _ _ h => ev_comp_is h) (hn xo h)
    · intro C X G lv N sc xo ex _ h; exact hn xo h
    · intro C X G lv N sc xo ex h; cases invT h
    · intro C X G lv N sc xo op es p h; cases invW h
    · intro C X G lv N sc xo ex h; cases invL h
    · intro C X G lv N sc xo xs ys h; cases invA h
    · intro C X G lv N sc xo xs ys h; cases invA h
    · intro C X G lv N sc xo ex h; cases invAr h
    · intro C X G lv N sc xo ex h; cases invO h
    · intro C X G lv N sc xo l r op p h; cases invC h
    · intro C X G lv N sc xo a e he h; cases he
    · intro C X G lv N sc xo wk it tg h; cases invI h
  | att cs e f ih =>
    refine ⟨?_, ?_, ?_, ?_, ?_, ?_, ?_, ?_, ?_, ?_, ?_, ?_, ?_⟩
    · intro C X G lv N sc xo ys h; cases invJ h
    · intro C X G lv N sc xo ex h; replace h := ckE_inv h; obtain ⟨_, _, _, rfl, h⟩ := h
      simp only [Bool.and_eq_true, decide_eq_true_eq] at h
      obtain ⟨⟨⟨rfl, h1⟩, h2⟩, h3⟩ := h
      exact r_att xo h1 (fun c hc => by simpa using (List.all_eq_true.1 h2) c hc) (ih.e xo h3)
    · intro C X G lv N sc xo ex hn h; cases hn
    · intro C X G lv N sc xo ex h; cases invT h
    · intro C X G lv N sc xo op es p h; cases invW h
    · intro C X G lv N sc xo ex h; cases invL h
    · intro C X G lv N sc xo xs ys h; cases invA h
    · intro C X G lv N sc xo xs ys h; cases invA h
    · intro C X G lv N sc xo ex h; cases invAr h
    · intro C X G lv N sc xo ex h; cases invO h
    · intro C X G lv N sc xo l r op p h; cases invC h
    · intro C X G lv N sc xo a e he h; cases he
    · intro C X G lv N sc xo wk it tg h; cases invI h
  | sg f =>
    refine ⟨?_, ?_, ?_, ?_, ?_, ?_, ?_, ?_, ?_, ?_, ?_, ?_, ?_⟩
    · intro C X G lv N sc xo ys h; cases invJ h
    · intro C X G lv N sc xo ex h; replace h := ckE_inv h; obtain ⟨_, _, _, _, rfl, h⟩ := h
      simp only [Bool.and_eq_true, decide_eq_true_eq] at h
      obtain ⟨⟨rfl, h1⟩, h2⟩ := h
      obtain ⟨g1, g2, g3, g4⟩ := nmOk xo h1
      split at h2
      · rename_i fl hfl
        exact r_sg xo g1 g2 g3 g4 hfl (of_decide_eq_true h2)
      · cases h2
    · intro C X G lv N sc xo ex hn h; cases hn
    · intro C X G lv N sc xo ex h; cases invT h
    · intro C X G lv N sc xo op es p h; cases invW h
    · intro C X G lv N sc xo ex h; cases invL h
    · intro C X G lv N sc xo xs ys h; cases invA h
    · intro C X G lv N sc xo xs ys h; cases invA h
    · intro C X G lv N sc xo ex h; cases invAr h
    · intro C X G lv N sc xo ex h; cases invO h
    · intro C X G lv N sc xo l r op p h; cases invC h
    · intro C X G lv N sc xo a e he h; cases he
    · intro C X G lv N sc xo wk it tg h; cases invI h
  | mk c es ih =>
    refine ⟨?_, ?_, ?_, ?_, ?_, ?_, ?_, ?_, ?_, ?_, ?_, ?_, ?_⟩
    · intro C X G lv N sc xo ys h; cases invJ h
    · intro C X G lv N sc xo ex h; replace h := ckE_inv h; obtain ⟨_, _, _, _, _, rfl, h⟩ := h
      simp only [Bool.and_eq_true, decide_eq_true_eq] at h
      obtain ⟨⟨⟨⟨⟨⟨rfl, h1⟩, h2⟩, h3⟩, h4⟩, h5⟩, h6⟩ := h
      exact r_mk xo h3 (xo.gl _ h1) (okN_of h2).1 h4 h5 (ih.l xo h6) fun env as env' e => ckL_len h6 e
    · intro C X G lv N sc xo ex hn h; cases hn
    · intro C X G lv N sc xo ex h; cases invT h
    · intro C X G lv N sc xo op es p h; cases invW h
    · intro C X G lv N sc xo ex h; cases invL h
    · intro C X G lv N sc xo xs ys h; cases invA h
    · intro C X G lv N sc xo xs ys h; cases invA h
    · intro C X G lv N sc xo ex h; cases invAr h
    · intro C X G lv N sc xo ex h; cases invO h
    · intro C X G lv N sc xo l r op p h; cases invC h
    · intro C X G lv N sc xo a e he h; cases he
    · intro C X G lv N sc xo wk it tg h; cases invI h
  | mth m e es ihe ihs =>
    refine ⟨?_, ?_, ?_, ?_, ?_, ?_, ?_, ?_, ?_, ?_, ?_, ?_, ?_⟩
    · intro C X G lv N sc xo ys h; cases invJ h
    · intro C X G lv N sc xo ex h; unfold ckE at h; split at h <;> first | (cases h; done) | (rename_i hq; cases hq; done) | (rename_i hq _; cases hq; done) | skip
      · rename_i hq; cases hq
        rw [Bool.and_eq_true, Bool.and_eq_true, Bool.and_eq_true, Bool.and_eq_true, Bool.and_eq_true, Bool.and_eq_true, Bool.and_eq_true, Bool.and_eq_true] at h
        obtain ⟨⟨⟨⟨⟨⟨⟨⟨h0, h1⟩, h2⟩, h3⟩, h4⟩, h5⟩, h6⟩, h7⟩, h8⟩ := h
        split at h4
        · rename_i t ht
          simp only [Bool.and_eq_true, decide_eq_true_eq] at h4
          obtain ⟨⟨t1, t2⟩, t3⟩ := h4
          obtain rfl := of_decide_eq_true h0
          exact r_mth (mm := t.2.2) xo h1 h2 (of_decide_eq_true h3) (by rw [ht, ← t1, ← t2]) t3 h5 h6 (ihe.e xo h7) (ihs.l xo h8) fun env as env' e => ckL_len h8 e
        · cases h4
      · rename_i hq; cases hq
        rw [Bool.and_eq_true, Bool.and_eq_true, Bool.and_eq_true, Bool.and_eq_true, Bool.and_eq_true, Bool.and_eq_true] at h
        obtain ⟨⟨⟨⟨⟨⟨h0, h1⟩, h2⟩, h3⟩, h4⟩, h5⟩, h6⟩ := h
        split at h4
        · rename_i t ht
          simp only [Bool.and_eq_true, decide_eq_true_eq] at h4
          obtain ⟨⟨⟨t1, t2⟩, t3⟩, t4⟩ := h4
          obtain rfl := of_decide_eq_true h0
          exact r_mthk (mm := t.2.2) xo h1 h2 (of_decide_eq_true h3) (by rw [ht, ← t1, ← t2]) t3 t4 (ihe.e xo h5) (ihs.k xo (xs := []) h6) fun env as env' e => by rw [ckA_len h6 e, List.length_map, List.length_cons]
        · cases h4
      · rename_i hq; cases hq
        rw [Bool.and_eq_true, Bool.and_eq_true, Bool.and_eq_true, Bool.and_eq_true, Bool.and_eq_true] at h
        obtain ⟨⟨⟨⟨⟨h0, h1⟩, h2⟩, h3⟩, h4⟩, h5⟩ := h
        split at h4
        · rename_i t ht
          simp only [Bool.and_eq_true, decide_eq_true_eq] at h4
          obtain ⟨⟨t1, t2⟩, t3⟩ := h4
          obtain rfl := of_decide_eq_true h0
          exact r_lno (mm := t.2.2) xo (by rw [ht, ← t1, ← t2]) t3 (xo.gl _ h1) (xo.bl _ (of_decide_eq_true h2)) h3 (ihe.e xo h5)
        · cases h4
      · rename_i hq; cases hq
        rw [Bool.and_eq_true, Bool.and_eq_true, Bool.and_eq_true, Bool.and_eq_true] at h
        obtain ⟨⟨⟨⟨h1, h2⟩, h3⟩, h4⟩, h5⟩ := h
        split at h5
        · rw [Bool.and_eq_true] at h5
          obtain ⟨h6, h7⟩ := h5
          cases es <;> first | (cases h7; done) | skip
          exact r_tx0 xo.K (of_decide_eq_true h1) h6 h2 h3 (ihe.e xo h4)
        · rw [Bool.and_eq_true] at h5
          obtain ⟨h6, h7⟩ := h5
          cases es with
          | cons e1 r =>
            cases r with
            | nil =>
              simp only [Bool.and_eq_true] at h7
              exact r_tx1 xo.K (of_decide_eq_true h1) h6 h2 h3 h7.1 (ihe.e xo h4) (ihs.s xo _ rfl h7.2)
            | _ => cases h7
          | _ => cases h7
        · cases h5
    · intro C X G lv N sc xo ex hn h; cases hn
    · intro C X G lv N sc xo ex h; cases invT h
    · intro C X G lv N sc xo op es p h; cases invW h
    · intro C X G lv N sc xo ex h; cases invL h
    · intro C X G lv N sc xo xs ys h; cases invA h
    · intro C X G lv N sc xo xs ys h; cases invA h
    · intro C X G lv N sc xo ex h; cases invAr h
    · intro C X G lv N sc xo ex h; cases invO h
    · intro C X G lv N sc xo l r op p h; cases invC h
    · intro C X G lv N sc xo a e he h; cases he
    · intro C X G lv N sc xo wk it tg h; cases invI h
  | fst es ih =>
    refine ⟨?_, ?_, ?_, ?_, ?_, ?_, ?_, ?_, ?_, ?_, ?_, ?_, ?_⟩
    · intro C X G lv N sc xo ys h; cases invJ h
    · intro C X G lv N sc xo ex h; replace h := ckE_inv h; obtain ⟨_, _, rfl, h⟩ := h
      rw [Bool.and_eq_true] at h
      obtain ⟨h1, h2⟩ := h
      obtain ⟨ts, g1, g2⟩ := ih.j xo h2
      split at h1
      · exact r_fst g1 g2
      · cases h1
    · intro C X G lv N sc xo ex hn h; cases hn
    · intro C X G lv N sc xo ex h; cases invT h
    · intro C X G lv N sc xo op es p h; cases invW h
    · intro C X G lv N sc xo ex h; cases invL h
    · intro C X G lv N sc xo xs ys h; cases invA h
    · intro C X G lv N sc xo xs ys h; cases invA h
    · intro C X G lv N sc xo ex h; cases invAr h
    · intro C X G lv N sc xo ex h; cases invO h
    · intro C X G lv N sc xo l r op p h; cases invC h
    · intro C X G lv N sc xo a e he h; cases he
    · intro C X G lv N sc xo wk it tg h; cases invI h
  | opq =>
    refine ⟨?_, ?_, ?_, ?_, ?_, ?_, ?_, ?_, ?_, ?_, ?_, ?_, ?_⟩
    · intro C X G lv N sc xo ys h; cases invJ h
    · intro C X G lv N sc xo ex h; exact (ckE_inv h).elim
    · intro C X G lv N sc xo ex hn h; cases hn
    · intro C X G lv N sc xo ex h; cases invT h
    · intro C X G lv N sc xo op es p h; cases invW h
    · intro C X G lv N sc xo ex h; cases invL h
    · intro C X G lv N sc xo xs ys h; cases invA h
    · intro C X G lv N sc xo xs ys h; cases invA h
    · intro C X G lv N sc xo ex h; cases invAr h
    · intro C X G lv N sc xo ex h; cases invO h
    · intro C X G lv N sc xo l r op p h; cases invC h
    · intro C X G lv N sc xo a e he h; cases he
    · intro C X G lv N sc xo wk it tg h; cases invI h
end Mn

namespace Mn
open PySem L2 RZ
variable {C : Ctx} {X : Cx} {F : FT} {env env' : Env} {d : D} {G : GS} {lv : Nat} {N : List PySem.Str} {sc : Scope}

/-- a def's own frame -/
structure XS (X : Cx) (C : Ctx) (G : GS) (lv : Nat) (N : List PySem.Str) (sc : Scope) : Prop extends XOk X C G lv N sc where
  sce : X.env.scope = sc
  hp : PassesOwn (model X.prog X.w) X.A X.env X.xe
def Want (C : Ctx) (D : Ends) (H : Hp) (B M : AP') (fl : Fl) (env' : Env) : Prop :=
  match fl with
  | .nx => ∀ σ' H' B' M', Sim C H' B' M' σ' env' → Nx H B M H' B' M' → D.nx σ' H'
  | .rt d => ∀ v σ' H' B' M', Sim C H' B' M' σ' env' → Rep C.K H' B' d v → Nx H B M H' B' M' → D.rt v H'
  | .bk => ∀ σ' H' B' M', Sim C H' B' M' σ' env' → Nx H B M H' B' M' → D.bk σ' H'
  | .ct => ∀ σ' H' B' M', Sim C H' B' M' σ' env' → Nx H B M H' B' M' → D.ct σ' H'
def tS (C : Ctx) (x : Sm) : TS := fun D σ H => ∃ B M env fl env', Sim C H B M σ env ∧ evS C.F C.fuel x env = some (fl, env') ∧ Want C D H B M fl env'
theorem q_nil : PSs X [] (tS C .nil) := pss_nil.imp fun D σ H h => by
  obtain ⟨B, M, env, fl, env', s, e, q⟩ := h
  rw [evS] at e; cases e
  exact q σ H B M s (Nx.refl _ _ _)
theorem q_seq {s r : Sm} {st : Stmt} {sts : List Stmt} (h1 : PS X st (tS C s)) (h2 : PSs X sts (tS C r)) : PSs X (st :: sts) (tS C (.seq s r)) := (pss_cons h1 h2).imp fun D σ H h => by
  obtain ⟨B, M, env, fl, env', s, e, q⟩ := h
  rw [evS] at e
  obtain ⟨⟨f, e1⟩, g1, e⟩ := bind_some e
  refine ⟨B, M, env, f, e1, s, g1, ?_⟩
  cases f with
  | nx =>
    intro σ1 H1 B1 M1 s1 n1
    refine ⟨B1, M1, e1, fl, env', s1, e, ?_⟩
    cases fl with
    | nx => exact fun σ2 H2 B2 M2 s2 n2 => q σ2 H2 B2 M2 s2 (n1.trans n2)
    | rt d => exact fun v σ2 H2 B2 M2 s2 r2 n2 => q v σ2 H2 B2 M2 s2 r2 (n1.trans n2)
    | bk => exact fun σ2 H2 B2 M2 s2 n2 => q σ2 H2 B2 M2 s2 (n1.trans n2)
    | ct => exact fun σ2 H2 B2 M2 s2 n2 => q σ2 H2 B2 M2 s2 (n1.trans n2)
  | rt d => cases e; exact q
  | bk => cases e; exact q
  | ct => cases e; exact q
theorem evS_asg {fuel : Nat} {i : Nat} {x : Ex} {fl : Fl} (h : evS F fuel (.asg i x) env = some (fl, env')) : ∃ d e1, evE F x env = some (d, e1) ∧ putS e1 i (.val d) = some env' ∧ fl = .nx := by
  rw [evS] at h
  obtain ⟨⟨d, e1⟩, g1, h⟩ := bind_some h
  obtain ⟨e2, g2, h⟩ := bind_some h
  cases h
  exact ⟨d, e1, g1, g2, rfl⟩
theorem evS_own {fuel : Nat} {i : Nat} {x : Ex} {fl : Fl} (h : evS F fuel (.own i x) env = some (fl, env')) : ∃ xs e1, evE F x env = some (.lst xs, e1) ∧ putS e1 i (.own xs) = some env' ∧ fl = .nx := by
  rw [evS] at h
  obtain ⟨⟨d, e1⟩, g1, h⟩ := bind_some h
  cases d <;> first | (cases h; done) | skip
  obtain ⟨e2, g2, h⟩ := bind_some h
  cases h
  exact ⟨_, e1, g1, g2, rfl⟩
theorem asg_imp {i : Nat} {x : Ex} {D : Ends} {σ : L2.St} {H : Hp} (h : tS C (.asg i x) D σ H) : tAsg (tE C x) (gName i) D σ H := by
  obtain ⟨B, M, env, fl, env', s, e, q⟩ := h
  obtain ⟨d, e1, g1, g2, rfl⟩ := evS_asg e
  exact ⟨B, M, env, d, e1, s, g1, fun v H1 B1 M1 s1 r1 n1 => q _ H1 B1 M1 (s1.putVal g2 r1) n1⟩
theorem own_imp {i : Nat} {x : Ex} {D : Ends} {σ : L2.St} {H : Hp} (h : tS C (.own i x) D σ H) : tAsg (tN C x) (gName i) D σ H := by
  obtain ⟨B, M, env, fl, env', s, e, q⟩ := h
  obtain ⟨xs, e1, g1, g2, rfl⟩ := evS_own e
  refine ⟨B, M, env, xs, e1, s, g1, fun p vs H1 B1 M1 s1 hp r1 nb mb lo h0 n1 => q _ H1 _ _ (s1.putOwn g2 hp r1 nb mb lo) ?_⟩
  exact ⟨n1.keep, fun a z => z.elim (fun e => .inr (e ▸ h0)) (n1.b a), fun a z => z.elim (fun e => .inr (e ▸ h0)) (n1.m a), n1.al⟩
theorem asgN_imp {i : Nat} {x : Ex} (hl : ∀ env d env', evE C.F x env = some (d, env') → ∃ xs, d = .lst xs) {D : Ends} {σ : L2.St} {H : Hp} (h : tAsg (tE C x) (gName i) D σ H) : tAsg (tN C x) (gName i) D σ H := by
  obtain ⟨B, M, env, d, env', s, ev, q⟩ := h
  obtain ⟨xs, rfl⟩ := hl _ _ _ ev
  refine ⟨B, M, env, xs, env', s, ev, fun p vs H' B' M' s' hp r nb mb lo _ n => ?_⟩
  exact q _ _ B' M' (s'.less (fun a z => .inr z) mb lo) ⟨p, vs, rfl, hp, nb, r.less s'.bl fun a z => .inr z⟩ n
/-- does CPython store such a comprehension's list ahead of its frame's end? -/
def swp (sc : Scope) (y : PySem.Str) (py : Pos) : Expr → Option Bool
  | .ListComp _ _ s p => some (isL sc y && py.line == p.line && !(s.names.any fun (n, k) => n == y && (k == .local || k == .cell)))
  | .SetComp .. => none
  | .DictComp .. => none
  | _ => some false
theorem isL_iff {sc : Scope} {y : PySem.Str} : isL sc y = (sc.names.lookup y == some .local) := by
  unfold isL kindIs
  cases sc.names.lookup y with
  | none => rfl
  | some k => cases k <;> rfl
theorem swp_ok (xs : XS X C G lv N sc) {y : PySem.Str} {py : Pos} {e : Expr} {b : Bool} {l : Nat} (h : swp sc y py e = some b) : swapsWith e (some (.Name y py)) l X.env = pure b := by
  have hb : X.env.blockKind = .function := by unfold PySem.Env.blockKind; rw [xs.kind]; rfl
  have hk : X.env.kindOf y = sc.names.lookup y := by unfold PySem.Env.kindOf; rw [xs.sce]
  cases e <;> first | (cases h; rfl) | (cases h; done) | skip
  simp only [swp, Option.some.injEq] at h
  subst h
  unfold swapsWith
  simp only [hb, hk, Expr.pos, isL_iff]
  rfl
theorem q_asg (xs : XS X C G lv N sc) {i : Nat} {x : Ex} {y : PySem.Str} {py pos : Pos} {e : Expr} (hN : N[i]? = some y) (hl : loc sc y = true) (hs : swp sc y py e = some false) (he : PE X e (tE C x)) : PS X (.Assign [.Name y py] e pos) (tS C (.asg i x)) := by
  obtain ⟨h3, h4⟩ := xs.loc y hl
  exact (ps_set (xs.n ▸ xs.nd) (by rw [xs.n]; exact hN) h3 he (swp_ok xs hs) h4).imp fun D σ H h => asg_imp h
theorem q_own (xs : XS X C G lv N sc) {i : Nat} {x : Ex} {y : PySem.Str} {py pos : Pos} {e : Expr} (hN : N[i]? = some y) (hl : loc sc y = true) (hs : swp sc y py e = some false) (he : PE X e (tN C x)) : PS X (.Assign [.Name y py] e pos) (tS C (.own i x)) := by
  obtain ⟨h3, h4⟩ := xs.loc y hl
  exact (ps_set (xs.n ▸ xs.nd) (by rw [xs.n]; exact hN) h3 he (swp_ok xs hs) h4).imp fun D σ H h => own_imp h
def ckIfs (G : GS) (N : List PySem.Str) (sc : Scope) (cd : Ex) (ifs : List Expr) : Bool := match ifs with | [] => (match cd with | .tyes => true | _ => false) | [c] => ckT G N sc cd c | _ => false
theorem ck_comp {w : Wk} {src cd el : Ex} {tg : Tg} {own : List Nat} {e : Expr} (h : ckE G N sc (.comp w src tg cd el own) e = true) :
    ∃ elt tge iter ifs scope pos, e = .ListComp elt [⟨tge, iter, ifs, 0⟩] scope pos ∧ (((((ckI G N sc w src iter tge = true ∧ ckTg N scope tg tge = true) ∧ blkC N sc scope (own.map fun i => (N.getD i "", i)) = true) ∧ (tgs tg).all (fun i => decide (i ∈ own)) = true) ∧
      ckIfs G N scope cd ifs = true) ∧ ckE G N scope el elt = true) := by
  unfold ckE at h
  split at h <;> first | (cases h; done) | (rename_i hq; cases hq; done) | skip
  rename_i hq; cases hq
  rw [Bool.and_eq_true, Bool.and_eq_true, Bool.and_eq_true, Bool.and_eq_true, Bool.and_eq_true] at h
  exact ⟨_, _, _, _, _, _, rfl, h⟩
/-- y = [.. for ..] on one line -/
theorem q_setLc (xs : XS X C G lv N sc) {w : Wk} {src cd el : Ex} {tg : Tg} {own : List Nat} {i : Nat} {y : PySem.Str} {py pos : Pos} {e : Expr} (hN : N[i]? = some y) (hs : swp sc y py e = some true) (h : ckE G N sc (.comp w src tg cd el own) e = true) :
    PS X (.Assign [.Name y py] e pos) (tAsg (tN C (.comp w src tg cd el own)) (gName i)) := by
  have sw := swp_ok xs (l := pos.line) hs
  have hyl : X.env.scope.names.lookup y = some .local := by
    cases e <;> first | (cases hs; done) | skip
    simp only [swp, Option.some.injEq, Bool.and_eq_true] at hs
    exact xs.isL y hs.1.1
  have xo := xs.toXOk
  obtain ⟨elt, tge, iter, ifs, scope, lpos, rfl, hh⟩ := ck_comp h
  obtain ⟨⟨⟨⟨⟨h1, h2⟩, h3⟩, h4⟩, h5⟩, h6⟩ := hh
  have hk := (blkOk_by h3).kind
  have hi := (snd_all src).i xo h1
  exact r_setLc xo (by rw [xs.n]; exact hN) hyl sw hi.1 (blk_of xo h3) (map_own _ _) (fun s H Cc cl fp => pg_B fun B0 => r_tg (xo.blk hk s H Cc cl fp).at h2) (fun s H Cc cl fp => r_ifs (xo.blk hk s H Cc cl fp) h5 (snd_all cd))
    (fun s H Cc cl fp => pe_B fun B0 => (snd_all el).e (xo.blk hk s H Cc cl fp).at h6) (folded hi.2) (fun i hi => of_decide_eq_true (List.all_eq_true.mp h4 i hi)) (len_E _ _) (len_E _ _)
theorem evS_unp {fuel : Nat} {is : List Nat} {x : Ex} {fl : Fl} (h : evS F fuel (.unp is x) env = some (fl, env')) : ∃ ds e1, evE F x env = some (.tup ds, e1) ∧ unpS is ds e1 = some env' ∧ fl = .nx := by
  rw [evS] at h
  obtain ⟨⟨d, e1⟩, g1, h⟩ := bind_some h
  cases d <;> first | (cases h; done) | skip
  obtain ⟨e2, g2, h⟩ := bind_some h
  cases h
  exact ⟨_, e1, g1, g2, rfl⟩
def notTC : Expr → Bool | .Tuple .. => false | .SetComp .. => false | .DictComp .. => false | _ => true
/-- are the stores of such a pair in the text's own order? -/
def ckU (sc : Scope) (es : List Expr) : Expr → Bool
  | .Tuple vs _ _ => (!(es.length == 2 || es.length == 3) || es.any (fun | .Name x _ => kindIs sc x (fun | .cell => true | .free => true | _ => false) | _ => false)) || vs.all (foldedForSure 8)
  | e => notTC e
theorem fm_lt {α β : Type} {f : α → Option β} : ∀ {l : List α}, (∃ a ∈ l, f a = none) → (l.filterMap f).length < l.length
  | [], ⟨a, h, _⟩ => by cases h
  | b :: l, ⟨a, h, e⟩ => by
    rw [List.filterMap_cons]
    rcases List.mem_cons.1 h with rfl | h
    · rw [e]
      exact Nat.lt_of_le_of_lt (List.length_filterMap_le f l) (Nat.lt_succ_self _)
    · have := fm_lt ⟨a, h, e⟩
      cases f b with
      | none => exact Nat.lt_succ_of_lt this
      | some c => exact Nat.succ_lt_succ this
theorem ckU_ok (xs : XS X C G lv N sc) {es : List Expr} {k : Nat} {tp : Pos} {e : Expr} (h : ckU sc es e = true) : swappedStores [.Tuple es k tp] e X.env = pure none := by
  cases e <;> first | rfl | skip
  rename_i vs k2 vp
  have h : ((!(es.length == 2 || es.length == 3) || es.any (fun | .Name x _ => kindIs sc x (fun | .cell => true | .free => true | _ => false) | _ => false)) || vs.all (foldedForSure 8)) = true := h
  unfold swappedStores
  simp only
  split
  · rfl
  rename_i c1
  split
  · rfl
  by_cases hf : vs.all (foldedForSure 8) = true
  · split
    · rfl
    · rfl
  have h : (!(es.length == 2 || es.length == 3) || es.any (fun | .Name x _ => kindIs sc x (fun | .cell => true | .free => true | _ => false) | _ => false)) = true := by
    rw [Bool.or_eq_true] at h
    exact h.resolve_right hf
  have c3 : es.any (fun | .Name x _ => kindIs sc x (fun | .cell => true | .free => true | _ => false) | _ => false) = true := by
    rw [Bool.or_eq_true] at h
    rcases h with h | h
    · exact absurd (by rw [h]; rfl) c1
    · exact h
  rw [List.any_eq_true] at c3
  obtain ⟨t, ht, hk⟩ := c3
  have lt : (es.filterMap fun
    | .Name id pos => if X.env.kindOf id == some .local && pos.line == (es.head?.map (·.pos.line)).getD 0 then some id else none
    | _ => none).length < es.length := by
    refine fm_lt ⟨t, ht, ?_⟩
    cases t <;> first | rfl | skip
    rename_i x xp
    have hk : kindIs sc x (fun | .cell => true | .free => true | _ => false) = true := hk
    obtain ⟨kd, e1, e2⟩ := kind_of hk
    have hc : X.env.scope.names.lookup x = some .cell ∨ X.env.scope.names.lookup x = some .free := xs.cf x (by cases kd <;> first | exact .inl e1 | exact .inr e1 | cases e2)
    have : (X.env.kindOf x == some NameKind.local) = false := by
      show (X.env.scope.names.lookup x == some NameKind.local) = false
      rcases hc with hc | hc <;> rw [hc] <;> rfl
    show (if (X.env.kindOf x == some NameKind.local && _) = true then some x else none) = none
    rw [this, Bool.false_and]
    rfl
  rw [if_pos (by
    rw [Bool.or_eq_true]
    left
    rw [bne_iff_ne]
    exact Nat.ne_of_lt lt)]
theorem q_unp (xs : XS X C G lv N sc) {is : List Nat} {x : Ex} {es : List Expr} {k : Nat} {tp pos : Pos} {e : Expr} (ht : ckTgN N sc is es = true) (hn : ckU sc es e = true) (he : PE X e (tE C x)) : PS X (.Assign [.Tuple es k tp] e pos) (tS C (.unp is x)) := by
  have g := r_tg (C := C) xs.toXOk (tg := .many is) (e := .Tuple es k tp) ht
  refine (ps_asg he g ?_ (ckU_ok xs hn) rfl).imp fun D σ H h => ?_
  · show swapsWith e (some (.Tuple es k tp)) pos.line X.env = pure false
    cases e <;> first | rfl | cases hn
  · obtain ⟨B, M, env, fl, env', s, ev, q⟩ := h
    obtain ⟨ds, e1, g1, g2, rfl⟩ := evS_unp ev
    exact ⟨B, M, env, _, e1, s, g1, fun v H1 B1 M1 s1 r1 n1 => ⟨B1, M1, e1, env', .tup ds, s1, r1, g2, fun σ' s' _ => q σ' H1 B1 M1 s' n1⟩⟩
theorem q_ret {x : Ex} {e : Expr} {pos : Pos} (he : PE X e (tE C x)) : PS X (.Return (some e) pos) (tS C (.ret x)) := (ps_ret he).imp fun D σ H h => by
  obtain ⟨B, M, env, fl, env', s, ev, q⟩ := h
  rw [evS] at ev
  obtain ⟨⟨d, e1⟩, g1, ev⟩ := bind_some ev
  cases ev
  exact ⟨B, M, env, d, _, s, g1, fun v H1 B1 M1 s1 r1 n1 => q v σ H1 B1 M1 s1 r1 n1⟩
theorem q_retn {pos : Pos} : PS X (.Return none pos) (tS C .retn) := ps_retN.imp fun D σ H h => by
  obtain ⟨B, M, env, fl, env', s, ev, q⟩ := h
  rw [evS] at ev; cases ev
  exact q .non σ H B M s rfl (Nx.refl _ _ _)
theorem q_pas {pos : Pos} : PS X (.Pass pos) (tS C .pas) := ps_pass.imp fun D σ H h => by
  obtain ⟨B, M, env, fl, env', s, ev, q⟩ := h
  rw [evS] at ev; cases ev
  exact q σ H B M s (Nx.refl _ _ _)
theorem q_doc {z j p pos} : PS X (.Expr (.Constant (.str z) j p) pos) (tS C .pas) := ps_doc.imp fun D σ H h => by
  obtain ⟨B, M, env, fl, env', s, ev, q⟩ := h
  rw [evS] at ev; cases ev
  exact q σ H B M s (Nx.refl _ _ _)
theorem q_brk {pos : Pos} : PS X (.Break pos) (tS C .brk) := ps_break.imp fun D σ H h => by
  obtain ⟨B, M, env, fl, env', s, ev, q⟩ := h
  rw [evS] at ev; cases ev
  exact q σ H B M s (Nx.refl _ _ _)
theorem q_cnt {pos : Pos} : PS X (.Continue pos) (tS C .cnt) := ps_continue.imp fun D σ H h => by
  obtain ⟨B, M, env, fl, env', s, ev, q⟩ := h
  rw [evS] at ev; cases ev
  exact q σ H B M s (Nx.refl _ _ _)
theorem q_never {st : Stmt} : PS X st (tS C .never) := ps_never.imp fun D σ H h => by
  obtain ⟨B, M, env, fl, env', s, ev, q⟩ := h
  rw [evS] at ev; cases ev
theorem q_exp {x : Ex} {e : Expr} {pos : Pos} (hs : swapsWith e none pos.line X.env = pure false) (he : PE X e (tE C x)) : PS X (.Expr e pos) (tS C (.exp x)) := (ps_expr he hs).imp fun D σ H h => by
  obtain ⟨B, M, env, fl, env', s, ev, q⟩ := h
  rw [evS] at ev
  obtain ⟨⟨d, e1⟩, g1, ev⟩ := bind_some ev
  cases ev
  exact ⟨B, M, env, d, _, s, g1, fun v H1 B1 M1 s1 r1 n1 => q σ H1 B1 M1 s1 n1⟩
theorem evS_iff {fuel : Nat} {c : Ex} {t u : Sm} {fl : Fl} (h : evS F fuel (.iff c t u) env = some (fl, env')) : ∃ k e1, evT F c env = some (k, e1) ∧ (if k = true then evS F fuel t e1 = some (fl, env') else evS F fuel u e1 = some (fl, env')) := by
  rw [evS] at h
  obtain ⟨⟨k, e1⟩, g1, h⟩ := bind_some h
  refine ⟨k, e1, g1, ?_⟩
  cases k <;> exact h
/-- what is wanted, from a later state on -/
theorem later {H H1 : Hp} {B M B1 M1 : AP'} {D : Ends} {fl : Fl} {env' : Env} (n1 : Nx H B M H1 B1 M1) (q : Want C D H B M fl env') : Want C D H1 B1 M1 fl env' := by
  cases fl with
  | nx => exact fun σ2 H2 B2 M2 s2 n2 => q σ2 H2 B2 M2 s2 (n1.trans n2)
  | rt d => exact fun v σ2 H2 B2 M2 s2 r2 n2 => q v σ2 H2 B2 M2 s2 r2 (n1.trans n2)
  | bk => exact fun σ2 H2 B2 M2 s2 n2 => q σ2 H2 B2 M2 s2 (n1.trans n2)
  | ct => exact fun σ2 H2 B2 M2 s2 n2 => q σ2 H2 B2 M2 s2 (n1.trans n2)
theorem q_if {c : Ex} {t u : Sm} {ec : Expr} {st su : List Stmt} {pos : Pos} (hc : PT X ec (tT C c)) (ht : PSs X st (tS C t)) (hu : PSs X su (tS C u)) : PS X (.If ec st su pos) (tS C (.iff c t u)) := (ps_if hc ht hu).imp fun D σ H h => by
  obtain ⟨B, M, env, fl, env', s, ev, q⟩ := h
  obtain ⟨k, e1, g1, g2⟩ := evS_iff ev
  refine ⟨B, M, env, k, e1, s, g1, fun H1 B1 M1 s1 n1 => ?_⟩
  cases k <;> exact ⟨B1, M1, e1, fl, env', s1, g2, later n1 q⟩
/-- x.append(e) -/
theorem evS_app {fuel : Nat} {i : Nat} {x : Ex} {fl : Fl} (h : evS F fuel (.app i x) env = some (fl, env')) : ∃ ys d e1 xs, mutS env i = some ys ∧ evE F x env = some (d, e1) ∧ mutS e1 i = some xs ∧ xs.length < lim ∧ env' = setM e1 i (xs ++ [d]) ∧ fl = .nx := by
  rw [evS] at h
  obtain ⟨ys, g0, h⟩ := bind_some h
  obtain ⟨⟨d, e1⟩, g1, h⟩ := bind_some h
  obtain ⟨xs, g2, h⟩ := bind_some h
  split at h
  · cases h; exact ⟨ys, d, e1, xs, g0, g1, g2, by assumption, rfl, rfl⟩
  · cases h
theorem q_app (xs : XS X C G lv N sc) {i : Nat} {x : Ex} {y : PySem.Str} {py ap cp pos : Pos} {e : Expr} (hN : X.N[i]? = some y) (hv : Vis X.env.scope y) (hd : (y == ("__debug__" : PySem.Str)) = false) (hcd : (y == ("__classdict__" : PySem.Str)) = false) (hn : nst e = true) (hline : (ap.endLine == cp.line) = true) (he : PE X e (tE C x)) :
    PS X (.Expr (.Call (.Attribute (.Name y py) "append" ap) [e] [] cp) pos) (tS C (.app i x)) :=
  (ps_expr (pe_bm PySem.F.plainAttrs_list PySem.F.slot_list_append PySem.F.type_list_append mt_append (pe_var hN hv hd hcd) (pa_cons he pa_nil (star_cons hn)) rfl (by rw [star_cons hn]; rfl) hline (star_cons hn) rfl) rfl).imp fun D σ H h => by
    obtain ⟨B, M, env, fl, env', s, ev, q⟩ := h
    obtain ⟨ys, d, e1, zs, g0, g1, g2, g3, rfl, rfl⟩ := evS_app ev
    obtain ⟨a, vs, c1, c2, c3, c4⟩ := s.mut g0
    refine ⟨.ref a, c1, .inl ⟨rfl, vs, .inl (.inl c2)⟩, B, M, env, d, e1, s, g1, fun v H1 B1 M1 s1 r1 n1 => ?_⟩
    obtain ⟨a', ws, k1, k2, k3, k4⟩ := s1.mut g2
    rw [c1] at k1; cases k1
    refine ⟨a, ws, v, rfl, rfl, k2, by rw [k3.len]; exact lim_lt g3, ?_⟩
    obtain ⟨s2, n2⟩ := s1.setM g2 c1 (k3.app (RepL.cons r1 RepL.nil)) ⟨ws, k2⟩
    exact q σ _ B1 M1 s2 (n1.trans n2)
/-- x[k] = e -/
theorem evS_seti {fuel : Nat} {i : Nat} {x k : Ex} {fl : Fl} (h : evS F fuel (.seti i k x) env = some (fl, env')) : ∃ d e1 j e2 xs ys, evE F x env = some (d, e1) ∧ evE F k e1 = some (.int j, e2) ∧ mutS e1 i ≠ none ∧ mutS e2 i = some xs ∧ setJ xs j d = some ys ∧ env' = setM e2 i ys ∧ fl = .nx := by
  rw [evS] at h
  obtain ⟨⟨d, e1⟩, g1, h⟩ := bind_some h
  obtain ⟨z, g0, h⟩ := bind_some h
  obtain ⟨⟨w, e2⟩, g2, h⟩ := bind_some h
  cases w <;> first | (cases h; done) | skip
  obtain ⟨xs, g3, h⟩ := bind_some h
  obtain ⟨ys, g4, h⟩ := bind_some h
  cases h
  exact ⟨d, e1, _, e2, xs, ys, g1, g2, by rw [g0]; exact Option.some_ne_none _, g3, g4, rfl, rfl⟩
theorem q_seti (xs : XS X C G lv N sc) {i : Nat} {x k : Ex} {y : PySem.Str} {py sp pos : Pos} {e ek : Expr} (hN : X.N[i]? = some y) (hv : Vis X.env.scope y) (hd : (y == ("__debug__" : PySem.Str)) = false) (hcd : (y == ("__classdict__" : PySem.Str)) = false) (hs : notSl ek = true) (hn : notTC e = true) (he : PE X e (tE C x)) (hk : PE X ek (tE C k)) :
    PS X (.Assign [.Subscript (.Name y py) ek sp] e pos) (tS C (.seti i k x)) := by
  refine (ps_asg he (pg_sub (pe_var hN hv hd hcd) hk set_list (fun v => by cases ek <;> first | rfl | cases hs)) ?_ ?_ rfl).imp fun D σ H h => ?_
  · show swapsWith e (some (.Subscript (.Name y py) ek sp)) pos.line X.env = pure false
    cases e <;> first | rfl | cases hn
  · cases e <;> first | rfl | cases hn
  · obtain ⟨B, M, env, fl, env', s, ev, q⟩ := h
    obtain ⟨d, e1, j, e2, zs, ys, g1, g2, g0, g3, g4, rfl, rfl⟩ := evS_seti ev
    refine ⟨B, M, env, d, e1, s, g1, fun v H1 B1 M1 s1 r1 n1 => ?_⟩
    obtain ⟨w, hw⟩ : ∃ w, mutS e1 i = some w := by
      cases z : mutS e1 i with
      | none => exact absurd z g0
      | some w => exact ⟨w, rfl⟩
    obtain ⟨a, vs, c1, c2, c3, c4⟩ := s1.mut hw
    refine ⟨.ref a, c1, B1, M1, e1, _, e2, s1, g2, fun u H2 B2 M2 s2 r2 n2 => ?_⟩
    cases r2
    obtain ⟨a', ws, k1, k2, k3, k4⟩ := s2.mut g3
    rw [c1] at k1; cases k1
    simp only [setJ, Option.map_eq_some_iff] at g4
    obtain ⟨m, g4, rfl⟩ := g4
    refine ⟨a, ws, j, m, rfl, rfl, k2, by rw [k3.len]; exact g4, ?_⟩
    obtain ⟨s3, n3⟩ := s2.setM g3 c1 (RepL.set (Rep.nx s1.bl s1.mb n2 _ _ r1) k3) ⟨ws, k2⟩
    exact q σ _ B2 M2 s3 ((n1.trans n2).trans n3)
end Mn

namespace Mn
open PySem L2 RZ
variable {C : Ctx} {X : Cx} {F : FT} {env env' : Env} {d : D} {G : GS} {lv : Nat} {N : List PySem.Str} {sc : Scope}

theorem putOwn2 {H : Hp} {B M : AP'} {σ : L2.St} {p : Addr} {vs : List V} (s : Sim C H B M σ env) {i : Nat} {xs : List D} (h : putS env i (.own xs) = some env') (hp : H p = some (.lst vs)) (hB : B p) (hM : ¬ M p) (h0 : ¬ C.B0 p) (r : RepL C.K H B xs vs) : Sim C H B (ins p M) (σ.set i (some (.ref p))) env' := by
  have eB : B = ins p (fun a => B a ∧ a ≠ p) := by
    funext a
    refine propext ⟨fun h => ?_, fun h => h.elim (fun e => e ▸ hB) (·.1)⟩
    by_cases e : a = p
    · exact .inl e
    · exact .inr ⟨h, e⟩
  have s' : Sim C H (ins p (fun a => B a ∧ a ≠ p)) M σ env := eB ▸ s
  have := s'.putOwn h hp (eB ▸ r) (fun z => z.2 rfl) (fun a z => ⟨s.mb a z, fun e => hM (e ▸ z)⟩) (fun a z => ⟨s.lo a z, fun e => h0 (e ▸ z)⟩)
  rw [← eB] at this
  exact this
theorem Nx.insB {H H1 : Hp} {B M B1 M1 : AP'} {p : Addr} (n : Nx H B M H1 B1 M1) (hp : H p = none) : Nx H B M H1 (ins p B1) M1 := ⟨n.keep, fun a h => h.elim (fun e => .inr (e ▸ hp)) (n.b a), n.m, n.al⟩
theorem Nx.insM {H H1 : Hp} {B M B1 M1 : AP'} {p : Addr} (n : Nx H B M H1 B1 M1) (hp : H p = none) : Nx H B M H1 B1 (ins p M1) := ⟨n.keep, n.b, fun a h => h.elim (fun e => .inr (e ▸ hp)) (n.m a), n.al⟩
def tNB (C : Ctx) (x : Ex) : TE := fun σ H Q => ∃ B0, tN (C.at B0) x σ H Q
theorem pe_NB {e : Expr} {x : Ex} (h : ∀ B0, PE X e (tN (C.at B0) x)) : PE X e (tNB C x) := ⟨fun pins s σ H Q I ⟨B0, q⟩ => (h B0).run pins s σ H Q I q⟩
def putX (o : Bool) (env : Env) (i : Nat) (d : D) : Option Env := if o then (match d with | .lst xs => putS env i (.own xs) | _ => none) else putS env i (.val d)
theorem evS_par {fuel : Nat} {i j : Nat} {oi oj : Bool} {a b : Ex} {fl : Fl} (h : evS F fuel (.par i j oi oj a b) env = some (fl, env')) : ∃ x e1 y e2 e3, evE F a env = some (x, e1) ∧ evE F b e1 = some (y, e2) ∧ putX oi e2 i x = some e3 ∧ putX oj e3 j y = some env' ∧ fl = .nx := by
  rw [evS] at h
  obtain ⟨⟨x, e1⟩, g1, h⟩ := bind_some h
  obtain ⟨⟨y, e2⟩, g2, h⟩ := bind_some h
  obtain ⟨e3, g3, h⟩ := bind_some h
  obtain ⟨e4, g4, h⟩ := bind_some h
  cases h
  exact ⟨x, e1, y, e2, e3, g1, g2, g3, g4, rfl⟩
/-- the reading of one side of a, b = .. -/
def tX (C : Ctx) (o : Bool) (x : Ex) : TE := if o then tNB C x else tEB C x
theorem par_imp {i j : Nat} {oi oj : Bool} {a b : Ex} {D : Ends} {σ : L2.St} {H : Hp} (h : tS C (.par i j oi oj a b) D σ H) : tPar i j (tCons (tX C oi a) (tCons (tX C oj b) tNil)) D σ H := by
  obtain ⟨B, M, env, fl, env', s, ev, q⟩ := h
  obtain ⟨x, e1, y, e2, e3, g1, g2, g3, g4, rfl⟩ := evS_par ev
  cases oi with
  | false =>
    simp only [putX, Bool.false_eq_true, if_false] at g3
    refine ⟨C.B0, B, M, env, x, e1, s, g1, fun v H1 B1 M1 s1 r1 n1 => ?_⟩
    cases oj with
    | false =>
      simp only [putX, Bool.false_eq_true, if_false] at g4
      refine ⟨C.B0, B1, M1, e1, y, e2, s1, g2, fun w H2 B2 M2 s2 r2 n2 => ⟨v, w, rfl, ?_⟩⟩
      exact q _ H2 B2 M2 ((s2.putVal g3 (Rep.nx s1.bl s1.mb n2 _ _ r1)).putVal g4 r2) (n1.trans n2)
    | true =>
      simp only [putX, if_true] at g4
      cases y <;> first | (cases g4; done) | skip
      refine ⟨C.B0, B1, M1, e1, _, e2, s1, g2, fun p vs H2 B2 M2 s2 hp r2 nb mb lo h0 n2 => ⟨v, .ref p, rfl, ?_⟩⟩
      have n3 := n2.insB h0
      have hp0 := n1.al p h0
      exact q _ H2 _ _ (putOwn2 (s2.putVal g3 (Rep.nx s1.bl s1.mb n3 _ _ r1)) g4 hp (.inl rfl) (fun z => nb (mb p z)) (fun z => nb (lo p z)) r2) ((n1.trans n3).insM hp0)
  | true =>
    simp only [putX, if_true] at g3
    cases x <;> first | (cases g3; done) | skip
    refine ⟨C.B0, B, M, env, _, e1, s, g1, fun p vs H1 B1 M1 s1 hp r1 nb mb lo h0 n1 => ?_⟩
    have nM : ¬ M1 p := fun z => nb (mb p z)
    have nC : ¬ C.B0 p := fun z => nb (lo p z)
    have s1' : Sim (C.at (ins p C.B0)) H1 (ins p B1) M1 σ e1 := Sim.insB (C := C) s1 nM
    have n1' := n1.insB h0
    cases oj with
    | false =>
      simp only [putX, Bool.false_eq_true, if_false] at g4
      refine ⟨ins p C.B0, ins p B1, M1, e1, y, e2, s1', g2, fun w H2 B2 M2 s2 r2 n2 => ⟨.ref p, w, rfl, ?_⟩⟩
      have nM2 : ¬ M2 p := fun z => (n2.m p z).elim nM fun e => by rw [hp] at e; cases e
      have s3 := putOwn2 (s2.downB fun a z => .inr z) g3 (n2.keep p _ hp nM) (s2.lo p (.inl rfl)) nM2 nC (RepL.nx s1.bl s1.mb n2 _ _ r1)
      exact q _ H2 _ _ (s3.putVal g4 r2) ((n1'.trans n2).insM h0)
    | true =>
      simp only [putX, if_true] at g4
      cases y <;> first | (cases g4; done) | skip
      refine ⟨ins p C.B0, ins p B1, M1, e1, _, e2, s1', g2, fun p2 vs2 H2 B2 M2 s2 hp2 r2 nb2 mb2 lo2 h02 n2 => ⟨.ref p, .ref p2, rfl, ?_⟩⟩
      have n3 := n2.insB h02
      have B2p : B2 p := lo2 p (.inl rfl)
      have ne : p2 ≠ p := fun e => nb2 (e ▸ B2p)
      have nM2 : ¬ M2 p := fun z => (n2.m p z).elim nM fun e => by rw [hp] at e; cases e
      have s3 := putOwn2 (s2.downB fun a z => .inr z) g3 (n2.keep p _ hp nM) (.inr B2p) nM2 nC (RepL.nx s1.bl s1.mb n3 _ _ r1)
      have hp20 : H p2 = none := n1.al p2 h02
      exact q _ H2 _ _ (putOwn2 s3 g4 hp2 (.inl rfl) (fun z => z.elim ne fun z => nb2 (mb2 p2 z)) (fun z => nb2 (lo2 p2 (.inr z))) r2) (((n1'.trans n3).insM h0).insM hp20)
def swS (sc : Scope) (x y : PySem.Str) (px py : Pos) (a b : Expr) : Bool :=
  isL sc x && isL sc y && py.line == px.line && !(x == y) && nst a && nst b && !(foldedForSure 8 a && foldedForSure 8 b) && !(constantsAlone 8 a && constantsAlone 8 b)
theorem swS_ok (xs : XS X C G lv N sc) {x y : PySem.Str} {px py tp vp : Pos} {k k2 : Nat} {a b : Expr} (h : swS sc x y px py a b = true) : swappedStores [.Tuple [.Name x px, .Name y py] k tp] (.Tuple [a, b] k2 vp) X.env = pure (some [x, y]) := by
  have hb : X.env.blockKind = .function := by unfold PySem.Env.blockKind; rw [xs.kind]; rfl
  unfold swS at h
  simp only [Bool.and_eq_true, Bool.not_eq_true'] at h
  obtain ⟨⟨⟨⟨⟨⟨⟨h1, h2⟩, h3⟩, h4⟩, h5⟩, h6⟩, h7⟩, h8⟩ := h
  have kx : X.env.kindOf x = some .local := xs.isL x h1
  have ky : X.env.kindOf y = some .local := xs.isL y h2
  have ne : x ≠ y := by simpa using h4
  have h3' : py.line = px.line := by simpa using h3
  unfold swappedStores
  simp only [hb, List.length_cons, List.length_nil, List.head?_cons, Option.map_some, Option.getD_some, Expr.pos]
  refine (if_neg (by decide)).trans ?_
  refine (if_neg ?_).trans ?_
  · simp only [List.any_cons, List.any_nil, Bool.or_false, Bool.not_eq_true, Bool.or_eq_false_iff]
    refine ⟨?_, ?_⟩
    · cases a <;> first | rfl | cases h5
    · cases b <;> first | rfl | cases h6
  simp only [List.filterMap_cons, List.filterMap_nil, kx, ky, h3', beq_self_eq_true, Bool.and_self, if_true]
  refine (if_neg ?_).trans ?_
  · simp [List.eraseDups_cons, ne.symm]
  refine (if_neg ?_).trans ?_
  · simp only [List.all_cons, List.all_nil, Bool.and_true, h7]; decide
  refine (if_neg ?_).trans rfl
  simp only [List.all_cons, List.all_nil, Bool.and_true, h8]; decide
/-- a, b = e, f -/
theorem q_par (xs : XS X C G lv N sc) {i j : Nat} {oi oj : Bool} {x y : PySem.Str} {px py tp vp pos : Pos} {k k2 : Nat} {a b : Expr} {ea eb : Ex} (hi : N[i]? = some x) (hj : N[j]? = some y) (hij : i ≠ j) (hs : swS sc x y px py a b = true) (na : nst a = true) (nb : nst b = true)
    (ha : PE X a (tX C oi ea)) (hb : PE X b (tX C oj eb)) : PS X (.Assign [.Tuple [.Name x px, .Name y py] k tp] (.Tuple [a, b] k2 vp) pos) (tS C (.par i j oi oj ea eb)) := by
  have h := hs
  unfold swS at h
  simp only [Bool.and_eq_true] at h
  exact (ps_par xs.calm (xs.n ▸ xs.nd) (by rw [xs.n]; exact hi) (by rw [xs.n]; exact hj) hij (xs.isL x h.1.1.1.1.1.1.1) (xs.isL y h.1.1.1.1.1.1.2) (pa_cons ha (pa_cons hb pa_nil (star_cons nb)) (star_cons na)) (swS_ok xs hs) rfl).imp fun D σ H h => par_imp h
/-- a, b, c = e, f, g -/
def swS3 (sc : Scope) (x y z : PySem.Str) (px py pz : Pos) (a b c : Expr) : Bool :=
  isL sc x && isL sc y && isL sc z && py.line == px.line && pz.line == px.line && !(x == y) && !(x == z) && !(y == z) && nst a && nst b && nst c && !(foldedForSure 8 a && foldedForSure 8 b && foldedForSure 8 c) && !(constantsAlone 8 a && constantsAlone 8 b && constantsAlone 8 c)
theorem swS3_ok (xs : XS X C G lv N sc) {x y z : PySem.Str} {px py pz tp vp : Pos} {k k2 : Nat} {a b c : Expr} (h : swS3 sc x y z px py pz a b c = true) : swappedStores [.Tuple [.Name x px, .Name y py, .Name z pz] k tp] (.Tuple [a, b, c] k2 vp) X.env = pure (some [x, y, z]) := by
  have hb : X.env.blockKind = .function := by unfold PySem.Env.blockKind; rw [xs.kind]; rfl
  unfold swS3 at h
  simp only [Bool.and_eq_true, Bool.not_eq_true'] at h
  obtain ⟨⟨⟨⟨⟨⟨⟨⟨⟨⟨⟨⟨h1, h2⟩, hz⟩, h3⟩, hzl⟩, h4⟩, hxz⟩, hyz⟩, h5⟩, h6⟩, hcn⟩, h7⟩, h8⟩ := h
  have kx : X.env.kindOf x = some .local := xs.isL x h1
  have ky : X.env.kindOf y = some .local := xs.isL y h2
  have kz : X.env.kindOf z = some .local := xs.isL z hz
  have ne : x ≠ y := by simpa using h4
  have ne2 : x ≠ z := by simpa using hxz
  have ne3 : y ≠ z := by simpa using hyz
  have h3' : py.line = px.line := by simpa using h3
  have h3'' : pz.line = px.line := by simpa using hzl
  unfold swappedStores
  simp only [hb, List.length_cons, List.length_nil, List.head?_cons, Option.map_some, Option.getD_some, Expr.pos]
  refine (if_neg (by decide)).trans ?_
  refine (if_neg ?_).trans ?_
  · simp only [List.any_cons, List.any_nil, Bool.or_false, Bool.not_eq_true, Bool.or_eq_false_iff]
    refine ⟨?_, ?_, ?_⟩
    · cases a <;> first | rfl | cases h5
    · cases b <;> first | rfl | cases h6
    · cases c <;> first | rfl | cases hcn
  simp only [List.filterMap_cons, List.filterMap_nil, kx, ky, kz, h3', h3'', beq_self_eq_true, Bool.and_self, if_true]
  refine (if_neg ?_).trans ?_
  · simp [List.eraseDups_cons, ne.symm, ne2.symm, ne3.symm]
  refine (if_neg ?_).trans ?_
  · simp only [List.all_cons, List.all_nil, Bool.and_true, ← Bool.and_assoc, h7]; decide
  refine (if_neg ?_).trans rfl
  simp only [List.all_cons, List.all_nil, Bool.and_true, ← Bool.and_assoc, h8]; decide
theorem unpS_cons {i : Nat} {is : List Nat} {d : D} {ds : List D} {env env' : Env} (h : unpS (i :: is) (d :: ds) env = some env') : ∃ e, putS env i (.val d) = some e ∧ unpS is ds e = some env' := by
  unfold unpS at h
  obtain ⟨e, g1, g2⟩ := bind_some h
  exact ⟨e, g1, g2⟩
theorem par3_imp {i j l : Nat} {es : Ex} {D : Ends} {σ : L2.St} {H : Hp} (h : tS C (.par3 i j l es) D σ H) : tPar3 i j l (tL C es) D σ H := by
  obtain ⟨B, M, env, fl, env', s, ev, q⟩ := h
  rw [evS] at ev
  obtain ⟨⟨xs, e1⟩, g1, ev⟩ := bind_some ev
  obtain ⟨e2, g2, ev⟩ := bind_some ev
  cases ev
  match xs, g2 with
  | [], g2 => cases g2
  | [x], g2 =>
    obtain ⟨_, _, g2⟩ := unpS_cons g2
    cases g2
  | [x, y], g2 =>
    obtain ⟨_, _, g2⟩ := unpS_cons g2
    obtain ⟨_, _, g2⟩ := unpS_cons g2
    cases g2
  | x :: y :: z :: w :: r, g2 =>
    obtain ⟨_, _, g2⟩ := unpS_cons g2
    obtain ⟨_, _, g2⟩ := unpS_cons g2
    obtain ⟨_, _, g2⟩ := unpS_cons g2
    cases g2
  | [x, y, z], g2 =>
    obtain ⟨e3, g3, g2⟩ := unpS_cons g2
    obtain ⟨e4, g4, g2⟩ := unpS_cons g2
    obtain ⟨e5, g5, g2⟩ := unpS_cons g2
    cases g2
    refine ⟨B, M, env, _, e1, s, g1, fun vs H1 B1 M1 s1 r1 n1 => ?_⟩
    obtain ⟨u, _, rfl, ru, r1⟩ := r1
    obtain ⟨v, _, rfl, rv, r1⟩ := r1
    obtain ⟨w, _, rfl, rw', r1⟩ := r1
    cases r1
    exact ⟨u, v, w, rfl, q _ H1 B1 M1 (((s1.putVal g3 ru).putVal g4 rv).putVal g5 rw') n1⟩
theorem q_par3 (xs : XS X C G lv N sc) {i j l : Nat} {x y z : PySem.Str} {px py pz tp vp pos : Pos} {k k2 : Nat} {a b c : Expr} {es : Ex} (hi : N[i]? = some x) (hj : N[j]? = some y) (hl : N[l]? = some z) (hij : i ≠ j) (hil : i ≠ l) (hjl : j ≠ l) (hs : swS3 sc x y z px py pz a b c = true)
    (ha : PA X [a, b, c] (tL C es)) : PS X (.Assign [.Tuple [.Name x px, .Name y py, .Name z pz] k tp] (.Tuple [a, b, c] k2 vp) pos) (tS C (.par3 i j l es)) := by
  have h := hs
  unfold swS3 at h
  simp only [Bool.and_eq_true] at h
  exact (ps_par3 xs.calm (xs.n ▸ xs.nd) (by rw [xs.n]; exact hi) (by rw [xs.n]; exact hj) (by rw [xs.n]; exact hl) hij hil hjl (xs.isL x h.1.1.1.1.1.1.1.1.1.1.1.1) (xs.isL y h.1.1.1.1.1.1.1.1.1.1.1.2) (xs.isL z h.1.1.1.1.1.1.1.1.1.1.2) ha (swS3_ok xs hs) rfl).imp fun D σ H h => par3_imp h
/-! ### loops -/
theorem q_whl (xs : XS X C G lv N sc) {c : Ex} {b : Sm} {ec : Expr} {sb : List Stmt} {pos : Pos} (hc : PT X ec (tT C c)) (hb : PSs X sb (tS C b)) : PS X (.While ec sb [] pos) (tS C (.whl c b)) := (ps_while xs.hp hc hb).imp fun D σ H h => by
  obtain ⟨B, M, env, fl, env', s, ev, q⟩ := h
  rw [evS] at ev
  refine ⟨fun m σ' H' => ∃ B' M' e', Sim C H' B' M' σ' e' ∧ Nx H B M H' B' M' ∧ whlN (fun e => evT C.F c e) (fun e => evS C.F C.fuel b e) m e' = some (fl, env'), ⟨C.fuel, B, M, env, s, Nx.refl _ _ _, ev⟩, ?_⟩
  rintro m σ1 H1 ⟨B1, M1, e1, s1, n1, w1⟩
  cases m with
  | zero => cases w1
  | succ m =>
    unfold whlN at w1
    obtain ⟨⟨k, e2⟩, g1, w1⟩ := bind_some w1
    refine ⟨B1, M1, e1, k, e2, s1, g1, fun H2 B2 M2 s2 n2 => ?_⟩
    cases k with
    | false =>
      cases w1
      exact q σ1 H2 B2 M2 s2 (n1.trans n2)
    | true =>
      obtain ⟨⟨f, e3⟩, g2, w1⟩ := bind_some w1
      refine ⟨fun σ' H' => ∃ B' M' e', Sim C H' B' M' σ' e' ∧ Nx H B M H' B' M' ∧ whlN (fun e => evT C.F c e) (fun e => evS C.F C.fuel b e) m e' = some (fl, env'), fun σ' H' h => ⟨m, Nat.lt_succ_self m, h⟩, B2, M2, e2, f, e3, s2, g2, ?_⟩
      cases f with
      | nx => exact fun σ3 H3 B3 M3 s3 n3 => ⟨B3, M3, e3, s3, (n1.trans n2).trans n3, w1⟩
      | ct => exact fun σ3 H3 B3 M3 s3 n3 => ⟨B3, M3, e3, s3, (n1.trans n2).trans n3, w1⟩
      | bk => cases w1; exact fun σ3 H3 B3 M3 s3 n3 => q σ3 H3 B3 M3 s3 ((n1.trans n2).trans n3)
      | rt d => cases w1; exact fun v σ3 H3 B3 M3 s3 r3 n3 => q v σ3 H3 B3 M3 s3 r3 ((n1.trans n2).trans n3)
theorem evS_for {fuel : Nat} {w : Wk} {src : Ex} {tg : Tg} {b : Sm} {fl : Fl} (h : evS F fuel (.for_ w src tg b) env = some (fl, env')) : ∃ xs e1 its, evL F src env = some (xs, e1) ∧ walk w xs = some its ∧ forL tg (fun e => evS F fuel b e) its e1 = some (fl, env') := by
  rw [evS] at h
  obtain ⟨⟨xs, e1⟩, g1, h⟩ := bind_some h
  obtain ⟨its, g2, h⟩ := bind_some h
  split at h
  · exact ⟨xs, e1, its, g1, g2, h⟩
  · cases h
theorem q_for (xs : XS X C G lv N sc) {w : Wk} {src : Ex} {tg : Tg} {b : Sm} {te it : Expr} {sb : List Stmt} {pos : Pos} (hi : PI X te it (tI C w src)) (hs : notSet it = true) (hg : PG X te (tG C tg)) (hb : PSs X sb (tS C b)) : PS X (.For te it sb [] pos) (tS C (.for_ w src tg b)) :=
  (ps_for xs.hp xs.calm hi hg hb (folded hs)).imp fun D σ H h => by
    obtain ⟨B, M, env, fl, env', s, ev, q⟩ := h
    obtain ⟨zs, e1, its, g1, g2, g3⟩ := evS_for ev
    refine ⟨B, M, env, zs, its, e1, s, g1, g2, fun J Gd H1 B1 M1 s1 wk k1 n1 => ?_⟩
    refine ⟨fun i m σ' H' => m = its.length - i ∧ i ≤ its.length ∧ ∃ B' M' e', Sim C H' B' M' σ' e' ∧ Gd H' B' ∧ Nx H B M H' B' M' ∧ forL tg (fun e => evS C.F C.fuel b e) (its.drop i) e' = some (fl, env'),
      ⟨its.length, rfl, Nat.zero_le _, B1, M1, e1, s1, k1, n1, g3⟩, ?_⟩
    rintro i m σ2 H2 ⟨rfl, hi, B2, M2, e2, s2, k2, n2, w2⟩
    by_cases hlt : i < its.length
    · rw [List.drop_eq_getElem_cons hlt] at w2
      unfold forL at w2
      obtain ⟨e3, g4, w2⟩ := bind_some w2
      obtain ⟨⟨f, e4⟩, g5, w2⟩ := bind_some w2
      refine .inr ⟨wk.go i H2 B2 k2 hlt, fun σ' H' => ∃ B' M' e', Sim C H' B' M' σ' e' ∧ Gd H' B' ∧ Nx H B M H' B' M' ∧ forL tg (fun e => evS C.F C.fuel b e) (its.drop (i + 1)) e' = some (fl, env'),
        fun σ' H' h => ⟨its.length - (i + 1), by omega, rfl, hlt, h⟩, fun v H3 hy => ?_⟩
      obtain ⟨al, rv⟩ := wk.yld i H2 B2 v H3 _ k2 s2.bl (List.getElem?_eq_getElem hlt) hy
      have s3 := s2.al al
      have n3 := n2.trans (al.nx (B := B2) (M := M2))
      have k3 : Gd H3 B2 := wk.stay H2 B2 M2 H3 B2 M2 s2.bl s2.mb k2 al.nx
      refine ⟨B2, M2, e2, e3, its[i], s3, rv, g4, fun σ4 s4 _ => ⟨B2, M2, e3, f, e4, s4, g5, ?_⟩⟩
      cases f with
      | nx => exact fun σ5 H5 B5 M5 s5 n5 => ⟨B5, M5, e4, s5, wk.stay H3 B2 M2 H5 B5 M5 s4.bl s4.mb k3 n5, n3.trans n5, w2⟩
      | ct => exact fun σ5 H5 B5 M5 s5 n5 => ⟨B5, M5, e4, s5, wk.stay H3 B2 M2 H5 B5 M5 s4.bl s4.mb k3 n5, n3.trans n5, w2⟩
      | bk => cases w2; exact fun σ5 H5 B5 M5 s5 n5 => q σ5 H5 B5 M5 s5 (n3.trans n5)
      | rt d => cases w2; exact fun v σ5 H5 B5 M5 s5 r5 n5 => q v σ5 H5 B5 M5 s5 r5 (n3.trans n5)
    · have e : i = its.length := by omega
      subst e
      rw [List.drop_length] at w2
      cases w2
      exact .inl ⟨wk.stop _ H2 B2 k2 (Nat.le_refl _), q σ2 H2 B2 M2 s2 n2⟩
end Mn

namespace Mn
open PySem L2 RZ
variable {C : Ctx} {X : Cx} {F : FT} {env env' : Env} {d : D} {G : GS} {lv : Nat} {N : List PySem.Str} {sc : Scope}

def isNew : Ex → Bool | .lst _ => true | .comp _ _ _ _ _ _ => true | .bin .add _ _ => true | _ => false
def isComp : Ex → Bool | .comp _ _ _ _ _ _ => true | _ => false
def notComp : Expr → Bool | .ListComp .. => false | .SetComp .. => false | .DictComp .. => false | _ => true
def ckX (G : GS) (N : List PySem.Str) (sc : Scope) (o : Bool) (x : Ex) (e : Expr) : Bool := (!o || isNew x) && ckE G N sc x e
def ckAs (G : GS) (N : List PySem.Str) (sc : Scope) (i : Nat) (y : PySem.Str) (py : Pos) (x : Ex) (e : Expr) : Bool :=
  decide (N[i]? = some y) && loc sc y && (match swp sc y py e with | some false => true | some true => isComp x | none => false) && ckE G N sc x e
mutual
def ckS (G : GS) (N : List PySem.Str) (sc : Scope) : Sm → Stmt → Bool
  | .asg i x, .Assign [.Name y py] e _ => ckAs G N sc i y py x e
  | .own i x, .Assign [.Name y py] e _ => ckAs G N sc i y py x e && isNew x
  | .unp is x, .Assign [.Tuple es _ _] e _ => ckTgN N sc is es && ckU sc es e && ckE G N sc x e
  | .par i j oi oj a b, .Assign [.Tuple [.Name x px, .Name y py] _ _] (.Tuple [ea, eb] _ _) _ => decide (N[i]? = some x) && decide (N[j]? = some y) && decide (i ≠ j) && swS sc x y px py ea eb && nst ea && nst eb && ckX G N sc oi a ea && ckX G N sc oj b eb
  | .par3 i j l es, .Assign [.Tuple [.Name x px, .Name y py, .Name z pz] _ _] (.Tuple [ea, eb, ec] _ _) _ => decide (N[i]? = some x) && decide (N[j]? = some y) && decide (N[l]? = some z) && decide (i ≠ j) && decide (i ≠ l) && decide (j ≠ l) && swS3 sc x y z px py pz ea eb ec && ckL G N sc es [ea, eb, ec]
  | .app i x, .Expr (.Call (.Attribute (.Name y _) m ap) [e] [] cp) _ => decide (m = ("append" : PySem.Str)) && nm N sc i y && nst e && (ap.endLine == cp.line) && ckE G N sc x e
  | .seti i k x, .Assign [.Subscript (.Name y _) ek _] e _ => nm N sc i y && notSl ek && notTC e && ckE G N sc x e && ckE G N sc k ek
  | .ret x, .Return (some e) _ => ckE G N sc x e
  | .retn, .Return none _ => true
  | .iff c t u, .If ec st su _ => ckT G N sc c ec && ckSs G N sc t st && ckSs G N sc u su
  | .whl c b, .While ec sb [] _ => ckT G N sc c ec && ckSs G N sc b sb
  | .for_ w src tg b, .For te it sb [] _ => ckI G N sc w src it te && ckTg N sc tg te && ckSs G N sc b sb
  | .brk, .Break _ => true
  | .cnt, .Continue _ => true
  | .pas, .Pass _ => true
  | .pas, .Expr (.Constant (.str _) _ _) _ => true
  | .exp x, .Expr e _ => notComp e && ckE G N sc x e
  | .never, _ => true
  | _, _ => false
def ckSs (G : GS) (N : List PySem.Str) (sc : Scope) : Sm → List Stmt → Bool
  | .nil, [] => true
  | .seq s r, st :: sts => ckS G N sc s st && ckSs G N sc r sts
  | _, _ => false
end
theorem new_e {x : Ex} (h : isNew x = true) (xo : XOk X C G lv N sc) {ex : Expr} (hc : ckE G N sc x ex = true) : PE X ex (tN C x) := by
  refine (snd_all x).n xo ?_ hc
  cases x <;> first | rfl | (cases h; done) | (rename_i o a b; cases o <;> first | rfl | cases h)
theorem ckX_ok (xo : XOk X C G lv N sc) {o : Bool} {x : Ex} {e : Expr} (h : ckX G N sc o x e = true) : PE X e (tX C o x) := by
  unfold ckX at h
  rw [Bool.and_eq_true] at h
  cases o with
  | true => exact pe_NB fun B0 => new_e (by simpa using h.1) xo.at h.2
  | false => exact pe_B fun B0 => (snd_all x).e xo.at h.2
theorem q_asgA (xs : XS X C G lv N sc) {i : Nat} {x : Ex} {y : PySem.Str} {py pos : Pos} {e : Expr} (h : ckAs G N sc i y py x e = true) : PS X (.Assign [.Name y py] e pos) (tS C (.asg i x)) := by
  unfold ckAs at h
  simp only [Bool.and_eq_true, decide_eq_true_eq] at h
  obtain ⟨⟨⟨h1, h2⟩, h3⟩, h4⟩ := h
  split at h3
  · exact q_asg xs h1 h2 (by assumption) ((snd_all x).e xs.toXOk h4)
  · cases x <;> first | (cases h3; done) | skip
    exact (q_setLc xs h1 (by assumption) h4).imp fun D σ H h => asgN_imp (fun _ _ _ h => ev_comp_is h) (asg_imp h)
  · cases h3
theorem q_ownA (xs : XS X C G lv N sc) {i : Nat} {x : Ex} {y : PySem.Str} {py pos : Pos} {e : Expr} (h : ckAs G N sc i y py x e = true) (hn : isNew x = true) : PS X (.Assign [.Name y py] e pos) (tS C (.own i x)) := by
  unfold ckAs at h
  simp only [Bool.and_eq_true, decide_eq_true_eq] at h
  obtain ⟨⟨⟨h1, h2⟩, h3⟩, h4⟩ := h
  split at h3
  · exact q_own xs h1 h2 (by assumption) (new_e hn xs.toXOk h4)
  · cases x <;> first | (cases h3; done) | skip
    exact (q_setLc xs h1 (by assumption) h4).imp fun D σ H h => own_imp h
  · cases h3
structure SndS (x : Sm) : Prop where
  s : ∀ {C : Ctx} {X : Cx} {G : GS} {lv : Nat} {N : List PySem.Str} {sc : Scope} (_ : XS X C G lv N sc) {st : Stmt}, ckS G N sc x st = true → PS X st (tS C x)
  l : ∀ {C : Ctx} {X : Cx} {G : GS} {lv : Nat} {N : List PySem.Str} {sc : Scope} (_ : XS X C G lv N sc) {st : List Stmt}, ckSs G N sc x st = true → PSs X st (tS C x)
theorem sndS_all : ∀ x : Sm, SndS x := by
  intro x
  induction x with
  | nil =>
    refine ⟨?_, ?_⟩
    · intro C X G lv N sc xs st h; unfold ckS at h; first | (cases h; done) | (split at h <;> first | (cases h; done) | (rename_i hq; cases hq; done) | (rename_i hq _; cases hq; done))
    · intro C X G lv N sc xs st h; cases st with | nil => exact q_nil | cons _ _ => (rw [ckSs] at h <;> first | (cases h; done) | (intros; contradiction))
  | seq s r ihs ihr =>
    refine ⟨?_, ?_⟩
    · intro C X G lv N sc xs st h; unfold ckS at h; first | (cases h; done) | (split at h <;> first | (cases h; done) | (rename_i hq; cases hq; done) | (rename_i hq _; cases hq; done))
    · intro C X G lv N sc xs st h; cases st with
      | nil => (rw [ckSs] at h <;> first | (cases h; done) | (intros; contradiction))
      | cons y ys =>
        rw [ckSs] at h
        rw [Bool.and_eq_true] at h
        exact q_seq (ihs.s xs h.1) (ihr.l xs h.2)
  | asg i x =>
    refine ⟨?_, ?_⟩
    · intro C X G lv N sc xs st h; unfold ckS at h; first | (cases h; done) | skip
      split at h <;> first | (cases h; done) | (rename_i hq; cases hq; done) | (rename_i hq _; cases hq; done) | skip
      rename_i hq; cases hq
      exact q_asgA xs h
    · intro C X G lv N sc xs st h; rw [ckSs] at h <;> first | (cases h; done) | (intros; contradiction)
  | own i x =>
    refine ⟨?_, ?_⟩
    · intro C X G lv N sc xs st h; unfold ckS at h; first | (cases h; done) | skip
      split at h <;> first | (cases h; done) | (rename_i hq; cases hq; done) | (rename_i hq _; cases hq; done) | skip
      rename_i hq; cases hq
      rw [Bool.and_eq_true] at h
      exact q_ownA xs h.1 h.2
    · intro C X G lv N sc xs st h; rw [ckSs] at h <;> first | (cases h; done) | (intros; contradiction)
  | unp is x =>
    refine ⟨?_, ?_⟩
    · intro C X G lv N sc xs st h; unfold ckS at h; first | (cases h; done) | skip
      split at h <;> first | (cases h; done) | (rename_i hq; cases hq; done) | (rename_i hq _; cases hq; done) | skip
      rename_i hq; cases hq
      simp only [Bool.and_eq_true, decide_eq_true_eq] at h
      exact q_unp xs h.1.1 h.1.2 ((snd_all x).e xs.toXOk h.2)
    · intro C X G lv N sc xs st h; rw [ckSs] at h <;> first | (cases h; done) | (intros; contradiction)
  | par i j oi oj a b =>
    refine ⟨?_, ?_⟩
    · intro C X G lv N sc xs st h; unfold ckS at h; first | (cases h; done) | skip
      split at h <;> first | (cases h; done) | (rename_i hq; cases hq; done) | (rename_i hq _; cases hq; done) | skip
      rename_i hq; cases hq
      simp only [Bool.and_eq_true, decide_eq_true_eq] at h
      obtain ⟨⟨⟨⟨⟨⟨⟨h1, h2⟩, h3⟩, h4⟩, h5⟩, h6⟩, h7⟩, h8⟩ := h
      exact q_par xs h1 h2 h3 h4 h5 h6 (ckX_ok xs.toXOk h7) (ckX_ok xs.toXOk h8)
    · intro C X G lv N sc xs st h; rw [ckSs] at h <;> first | (cases h; done) | (intros; contradiction)
  | par3 i j l es =>
    refine ⟨?_, ?_⟩
    · intro C X G lv N sc xs st h; unfold ckS at h; first | (cases h; done) | skip
      split at h <;> first | (cases h; done) | (rename_i hq; cases hq; done) | (rename_i hq _; cases hq; done) | skip
      rename_i hq; cases hq
      simp only [Bool.and_eq_true, decide_eq_true_eq] at h
      obtain ⟨⟨⟨⟨⟨⟨⟨h1, h2⟩, h3⟩, h4⟩, h5⟩, h6⟩, h7⟩, h8⟩ := h
      exact q_par3 xs h1 h2 h3 h4 h5 h6 h7 ((snd_all es).l xs.toXOk h8)
    · intro C X G lv N sc xs st h; rw [ckSs] at h <;> first | (cases h; done) | (intros; contradiction)
  | app i x =>
    refine ⟨?_, ?_⟩
    · intro C X G lv N sc xs st h; unfold ckS at h; first | (cases h; done) | skip
      split at h <;> first | (cases h; done) | (rename_i hq; cases hq; done) | (rename_i hq _; cases hq; done) | skip
      rename_i hq; cases hq
      simp only [Bool.and_eq_true, decide_eq_true_eq] at h
      obtain ⟨⟨⟨⟨rfl, h2⟩, h3⟩, h4⟩, h5⟩ := h
      obtain ⟨g1, g2, g3, g4⟩ := nmOk xs.toXOk h2
      exact q_app xs g1 g2 g3 g4 h3 h4 ((snd_all x).e xs.toXOk h5)
    · intro C X G lv N sc xs st h; rw [ckSs] at h <;> first | (cases h; done) | (intros; contradiction)
  | seti i k x =>
    refine ⟨?_, ?_⟩
    · intro C X G lv N sc xs st h; unfold ckS at h; first | (cases h; done) | skip
      split at h <;> first | (cases h; done) | (rename_i hq; cases hq; done) | (rename_i hq _; cases hq; done) | skip
      rename_i hq; cases hq
      simp only [Bool.and_eq_true, decide_eq_true_eq] at h
      obtain ⟨⟨⟨⟨h1, h2⟩, h3⟩, h4⟩, h5⟩ := h
      obtain ⟨g1, g2, g3, g4⟩ := nmOk xs.toXOk h1
      exact q_seti xs g1 g2 g3 g4 h2 h3 ((snd_all x).e xs.toXOk h4) ((snd_all k).e xs.toXOk h5)
    · intro C X G lv N sc xs st h; rw [ckSs] at h <;> first | (cases h; done) | (intros; contradiction)
  | ret x =>
    refine ⟨?_, ?_⟩
    · intro C X G lv N sc xs st h; unfold ckS at h; first | (cases h; done) | skip
      split at h <;> first | (cases h; done) | (rename_i hq; cases hq; done) | (rename_i hq _; cases hq; done) | skip
      rename_i hq; cases hq
      exact q_ret ((snd_all x).e xs.toXOk h)
    · intro C X G lv N sc xs st h; rw [ckSs] at h <;> first | (cases h; done) | (intros; contradiction)
  | retn =>
    refine ⟨?_, ?_⟩
    · intro C X G lv N sc xs st h; unfold ckS at h; first | (cases h; done) | skip
      split at h <;> first | (cases h; done) | (rename_i hq; cases hq; done) | (rename_i hq _; cases hq; done) | skip
      rename_i hq; cases hq
      exact q_retn
    · intro C X G lv N sc xs st h; rw [ckSs] at h <;> first | (cases h; done) | (intros; contradiction)
  | iff c t u iht ihu =>
    refine ⟨?_, ?_⟩
    · intro C X G lv N sc xs st h; unfold ckS at h; first | (cases h; done) | skip
      split at h <;> first | (cases h; done) | (rename_i hq; cases hq; done) | (rename_i hq _; cases hq; done) | skip
      rename_i hq; cases hq
      simp only [Bool.and_eq_true, decide_eq_true_eq] at h
      exact q_if ((snd_all c).t xs.toXOk h.1.1) (iht.l xs h.1.2) (ihu.l xs h.2)
    · intro C X G lv N sc xs st h; rw [ckSs] at h <;> first | (cases h; done) | (intros; contradiction)
  | whl c b ihb =>
    refine ⟨?_, ?_⟩
    · intro C X G lv N sc xs st h; unfold ckS at h; first | (cases h; done) | skip
      split at h <;> first | (cases h; done) | (rename_i hq; cases hq; done) | (rename_i hq _; cases hq; done) | skip
      rename_i hq; cases hq
      simp only [Bool.and_eq_true, decide_eq_true_eq] at h
      exact q_whl xs ((snd_all c).t xs.toXOk h.1) (ihb.l xs h.2)
    · intro C X G lv N sc xs st h; rw [ckSs] at h <;> first | (cases h; done) | (intros; contradiction)
  | for_ w src tg b ihb =>
    refine ⟨?_, ?_⟩
    · intro C X G lv N sc xs st h; unfold ckS at h; first | (cases h; done) | skip
      split at h <;> first | (cases h; done) | (rename_i hq; cases hq; done) | (rename_i hq _; cases hq; done) | skip
      rename_i hq; cases hq
      simp only [Bool.and_eq_true, decide_eq_true_eq] at h
      obtain ⟨g1, g2⟩ := (snd_all src).i xs.toXOk h.1.1
      exact q_for xs g1 g2 (r_tg xs.toXOk h.1.2) (ihb.l xs h.2)
    · intro C X G lv N sc xs st h; rw [ckSs] at h <;> first | (cases h; done) | (intros; contradiction)
  | brk =>
    refine ⟨?_, ?_⟩
    · intro C X G lv N sc xs st h; unfold ckS at h; first | (cases h; done) | skip
      split at h <;> first | (cases h; done) | (rename_i hq; cases hq; done) | (rename_i hq _; cases hq; done) | skip
      rename_i hq; cases hq
      exact q_brk
    · intro C X G lv N sc xs st h; rw [ckSs] at h <;> first | (cases h; done) | (intros; contradiction)
  | cnt =>
    refine ⟨?_, ?_⟩
    · intro C X G lv N sc xs st h; unfold ckS at h; first | (cases h; done) | skip
      split at h <;> first | (cases h; done) | (rename_i hq; cases hq; done) | (rename_i hq _; cases hq; done) | skip
      rename_i hq; cases hq
      exact q_cnt
    · intro C X G lv N sc xs st h; rw [ckSs] at h <;> first | (cases h; done) | (intros; contradiction)
  | pas =>
    refine ⟨?_, ?_⟩
    · intro C X G lv N sc xs st h; unfold ckS at h; split at h <;> first | (cases h; done) | (rename_i hq; cases hq; done) | (rename_i hq _; cases hq; done) | exact q_pas | exact q_doc
    · intro C X G lv N sc xs st h; rw [ckSs] at h <;> first | (cases h; done) | (intros; contradiction)
  | exp x =>
    refine ⟨?_, ?_⟩
    · intro C X G lv N sc xs st h; unfold ckS at h; split at h <;> first | (cases h; done) | (rename_i hq; cases hq; done) | (rename_i hq _; cases hq; done) | skip
      rename_i hq; cases hq
      rw [Bool.and_eq_true] at h
      refine q_exp ?_ ((snd_all x).e xs.toXOk h.2)
      rename_i e _
      cases e <;> first | rfl | cases h.1
    · intro C X G lv N sc xs st h; rw [ckSs] at h <;> first | (cases h; done) | (intros; contradiction)
  | never =>
    refine ⟨?_, ?_⟩
    · intro C X G lv N sc xs st h; exact q_never
    · intro C X G lv N sc xs st h; rw [ckSs] at h <;> first | (cases h; done) | (intros; contradiction)
  | sset f x =>
    refine ⟨?_, ?_⟩
    · intro C X G lv N sc xs st h; unfold ckS at h; first | (cases h; done) | (split at h <;> first | (cases h; done) | (rename_i hq; cases hq; done) | (rename_i hq _; cases hq; done))
    · intro C X G lv N sc xs st h; rw [ckSs] at h <;> first | (cases h; done) | (intros; contradiction)
end Mn

/-! an object's making: __init__, its statements one by one -/
namespace Mn
open PySem L2 RZ
variable {C : Ctx} {X : Cx} {env env' : Env} {G : GS} {lv : Nat} {N : List PySem.Str} {sc : Scope}

def mkC (C : Ctx) (p Cc dx : Addr) (ks : List PySem.Str) (xs : List D) (vs : List V) : Ctx :=
  { C with F := sfF C.F ks xs, K0 := fun a => if a = p then some (Cc, dx, ks.zip vs) else none, X0 := xs.zip vs }
theorem fld_zip : ∀ {ks : List PySem.Str} {xs : List D} {vs : List V} {f : PySem.Str} {d : D}, vs.length = xs.length → fldD ks xs f = some d → ∃ v, (ks.zip vs).lookup f = some v ∧ (d, v) ∈ xs.zip vs
  | [], _, _, _, _, _, h => by cases h
  | _ :: _, [], _, _, _, _, h => by cases h
  | k :: ks, x :: xs, [], f, d, l, h => by simp at l
  | k :: ks, x :: xs, v :: vs, f, d, l, h => by
    unfold fldD at h
    by_cases e : k = f
    · subst e
      rw [if_pos rfl] at h; cases h
      exact ⟨v, by simp, by simp⟩
    · rw [if_neg e] at h
      obtain ⟨w, h1, h2⟩ := fld_zip (vs := vs) (by simpa using l) h
      refine ⟨w, ?_, by rw [List.zip_cons_cons]; exact List.mem_cons_of_mem _ h2⟩
      rw [List.zip_cons_cons, List.lookup_cons]
      have : (f == k) = false := by simpa using fun z => e z.symm
      rw [this]
      exact h1
/-- no name of the text is the empty one -/
def noE (G : GS) : Bool := (G.fn.lookup ("" : PySem.Str)).isNone && (G.nw.lookup ("" : PySem.Str)).isNone && (G.mt.lookup ("" : PySem.Str)).isNone && (G.mks.lookup ("" : PySem.Str)).isNone && decide (("" : PySem.Str) ∉ G.co)
theorem sfF_ne {F : FT} {ks : List PySem.Str} {xs : List D} {n : PySem.Str} {ss : List Sl} (h : n ≠ "") : sfF F ks xs n ss = F n ss := by
  unfold sfF; rw [if_neg h]
theorem spF_sf {K : PySem.W.Frag} {F : FT} {ks : List PySem.Str} {xs : List D} {f : PySem.Str} {n : Nat} (h : f ≠ "") : spF K (sfF F ks xs) f n = spF K F f n := by
  unfold spF
  simp only [sfF_ne h]
theorem spN_sf {K : PySem.W.Frag} {F : FT} {ks : List PySem.Str} {xs : List D} {f : PySem.Str} {n : Nat} (h : f ≠ "") : spN K (sfF F ks xs) f n = spN K F f n := by
  unfold spN
  simp only [sfF_ne h]
theorem spM_sf {K : PySem.W.Frag} {F : FT} {ks : List PySem.Str} {xs : List D} {f : PySem.Str} {n : Nat} (h : f ≠ "") : spM K (sfF F ks xs) f n = spM K F f n := by
  unfold spM
  simp only [sfF_ne h]
theorem xs_mk {p Cc dx : Addr} {c : PySem.Str} {fl ks : List PySem.Str} {xs : List D} {vs : List V} (x : XS X C G lv N sc) (ne : noE G = true) (hcl : ∀ f ∈ fl, (c, f) ∈ G.ca) (hn : PySem.W.nsIn X.K mainGlobals c = some (some (.ref Cc))) (hP : C.P 0 = some p) (hl : vs.length = xs.length) :
    XS X (mkC C p Cc dx ks xs vs) { G with slf := some fl } lv N sc := by
  unfold noE at ne
  simp only [Bool.and_eq_true, decide_eq_true_eq, Option.isNone_iff_eq_none] at ne
  obtain ⟨⟨⟨⟨n1, n2⟩, n3⟩, n4⟩, n5⟩ := ne
  refine { n := x.n, nd := x.nd, calm := x.calm, K := x.K, kind := x.kind, vis := x.vis, loc := x.loc, isL := x.isL, cf := x.cf, gl := x.gl, room := x.room, qt := x.qt, bl := x.bl, mf := x.mf, fn := ?_, nw := ?_, co := ?_, ca := x.ca, mt := ?_, mkr := ?_, sf := ?_, sce := x.sce, hp := x.hp }
  · intro f n kf h
    have hf : f ≠ "" := fun e => by subst e; rw [n1] at h; cases h
    obtain ⟨fa, fd, ps, h1, h2, h3, h4⟩ := (x.fn f n kf h).ex
    exact ⟨fa, fd, ps, h1, h2, by show FnG _ _ _ _ _ _ _ _ _ (spF X.K (sfF C.F ks xs) f n); rw [spF_sf hf]; exact h3, h4⟩
  · intro f n h
    have hf : f ≠ "" := fun e => by subst e; rw [n2] at h; cases h
    obtain ⟨fa, fd, ps, h1, h2, h3, h4⟩ := (x.nw f n h).ex
    exact ⟨fa, fd, ps, h1, h2, by show FnG _ _ _ _ _ _ _ _ _ (spN X.K (sfF C.F ks xs) f n); rw [spN_sf hf]; exact h3, h4⟩
  · intro y hy d o e
    have hf : y ≠ "" := fun z => by subst z; exact n5 hy
    exact x.co y hy d o (by rw [← e]; exact (sfF_ne (ks := ks) (xs := xs) hf).symm)
  · intro g n c' m h
    have hf : g ≠ "" := fun e => by subst e; rw [n3] at h; cases h
    obtain ⟨Cx', fa, fd, ps, k, h1, h2, h3, h4, h5⟩ := (x.mt g n c' m h).ex
    exact ⟨Cx', fa, fd, ps, k, h1, h2, h3, by show FnG _ _ _ _ _ _ _ _ _ (spF X.K (sfF C.F ks xs) g n); rw [spF_sf hf]; exact h4, h5⟩
  · intro c' n h
    have hf : c' ≠ "" := fun e => by subst e; rw [n4] at h; cases h
    obtain ⟨Cx', fa, fd, ps, k, h1, h2, h3, h4, h5⟩ := (x.mkr c' n h).ex
    exact ⟨Cx', fa, fd, ps, k, h1, h2, h3, by show FnG _ _ _ _ _ _ _ _ _ (spM X.K (sfF C.F ks xs) c' n); rw [spM_sf hf]; exact h4, h5⟩
  · intro fl' hfl f hf d o e
    cases hfl
    have e' : (fldD ks xs f).map (fun d => (d, ([] : List (List D)))) = some (d, o) := e
    rw [Option.map_eq_some_iff] at e'
    obtain ⟨d', e1, e2⟩ := e'
    cases e2
    obtain ⟨v, h1, h2⟩ := fld_zip hl e1
    obtain ⟨Cc', hn', cl, na⟩ := x.ca _ (hcl f hf)
    have hCC : Cc' = Cc := by
      have := hn'.symm.trans hn
      simpa using this
    subst hCC
    exact ⟨p, Cc', dx, ks.zip vs, v, hP, if_pos rfl, cl, na, h1, h2⟩
/-- a field is set -/
theorem putF_new {f : PySem.Str} {v : V} : ∀ {ks : List PySem.Str} {vs : List V}, f ∉ ks → ks.length = vs.length → putF f v (ks.zip vs) = (ks ++ [f]).zip (vs ++ [v])
  | [], [], _, _ => rfl
  | [], _ :: _, _, h => by simp at h
  | _ :: _, [], _, h => by simp at h
  | k :: ks, w :: vs, h, l => by
    simp only [List.mem_cons, not_or] at h
    show (if k = f then (k, v) :: ks.zip vs else (k, w) :: putF f v (ks.zip vs)) = _
    rw [if_neg (fun e => h.1 e.symm), putF_new h.2 (by simpa using l)]
    rfl
theorem Sim.mkset {p Cc dx : Addr} {ks : List PySem.Str} {xs : List D} {vs : List V} {H : Hp} {B M : AP'} {σ : L2.St} {f : PySem.Str} {d : D} {v : V} (s : Sim (mkC C p Cc dx ks xs vs) H B M σ env) (hB : B p) (hl : vs.length = xs.length) (r : Rep C.K H B d v) :
    Sim (mkC C p Cc dx (ks ++ [f]) (xs ++ [d]) (vs ++ [v])) (upd H p (.ins Cc dx ((ks ++ [f]).zip (vs ++ [v])))) B M σ env := by
  have k0 := s.kp p (Cc, dx, ks.zip vs) (if_pos rfl)
  have tn : Nx H B (fun a => a = p) (upd H p (.ins Cc dx ((ks ++ [f]).zip (vs ++ [v])))) B (fun a => a = p) :=
    ⟨fun a o h nm => by rw [upd_ne (show a ≠ p from nm)]; exact h, fun _ h => .inl h, fun _ h => .inl h, fun a h => upd_none h⟩
  have bM : ∀ a, a = p → B a := fun a e => by rw [e]; exact hB
  have nx : ∀ {d' : D} {v' : V}, Rep C.K H B d' v' → Rep C.K (upd H p (.ins Cc dx ((ks ++ [f]).zip (vs ++ [v])))) B d' v' := fun {d' v'} r => Rep.nx s.bl bM tn d' v' r
  have nxl : ∀ {d' : List D} {v' : List V}, RepL C.K H B d' v' → RepL C.K (upd H p (.ins Cc dx ((ks ++ [f]).zip (vs ++ [v])))) B d' v' := fun {d' v'} r => RepL.nx s.bl bM tn d' v' r
  have ne : ∀ {a : Addr}, M a → a ≠ p := fun m e => k0.2 (e ▸ m)
  refine ⟨s.len, fun a h => ?_, s.mb, s.lo, fun i d h => let ⟨v, e, r⟩ := s.val i d h; ⟨v, e, nx r⟩, fun i xs h => ?_, fun i xs h => ?_, s.inj, fun a o h => ?_, fun d' v' h => ?_, s.sl⟩
  · by_cases e : a = p
    · subst e; exact ⟨.i Cc dx _, upd_same⟩
    · rw [upd_ne e]; exact s.bl a h
  · obtain ⟨a, vs, e, q, r, m, n⟩ := s.own i xs h
    exact ⟨a, vs, e, by rw [upd_ne (ne m)]; exact q, nxl r, m, n⟩
  · obtain ⟨a, vs, p', e, q, r, m⟩ := s.par i xs h
    exact ⟨a, vs, p', e, by rw [upd_ne (ne m)]; exact q, nxl r, m⟩
  · have h : (if a = p then some (Cc, dx, (ks ++ [f]).zip (vs ++ [v])) else none) = some o := h
    by_cases e : a = p
    · rw [if_pos e] at h; cases h
      exact ⟨by rw [e, upd_same], by rw [e]; exact k0.2⟩
    · rw [if_neg e] at h; cases h
  · have h : (d', v') ∈ (xs ++ [d]).zip (vs ++ [v]) := h
    rw [List.zip_append hl.symm] at h
    rcases List.mem_append.1 h with h | h
    · exact nx (s.ex d' v' h)
    · simp at h
      obtain ⟨rfl, rfl⟩ := h
      exact nx r
def ckM (c : PySem.Str) (fl : List PySem.Str) (G : GS) (N : List PySem.Str) (sc : Scope) : Sm → List Stmt → Bool
  | .nil, [] => true
  | .seq (.sset f e) r, .Assign [.Attribute (.Name x _) g _] v _ :: rest => decide (f = g) && nm N sc 0 x && decide ((c, f) ∈ G.ca) && notTC v && ckE { G with slf := some fl } N sc e v && ckM c fl G N sc r rest
  | .seq (.sset _ _) _, _ => false
  | .seq s r, st :: rest => ckS { G with slf := some fl } N sc s st && ckM c fl G N sc r rest
  | _, _ => false
/-- the reading of what is left of a making -/
def tM (C : Ctx) (p Cc dx : Addr) (its : Sm) : TS := fun D σ H => ∃ (ks : List PySem.Str) (xs : List Mn.D) (vs : List V) (B M : AP') (env : Env) (ks' : List PySem.Str) (xs' : List Mn.D) (H0 : Hp), Sim (mkC C p Cc dx ks xs vs) H B M σ env ∧ vs.length = xs.length ∧ ks.length = xs.length ∧ ks'.length < 900 ∧ evM C.F C.fuel its env ks xs = some (ks', xs') ∧
  (∀ a o, H0 a = some o → a ≠ p → H a = some o) ∧ (∀ a, H a = none → H0 a = none) ∧ (∀ a, M a → H0 a = none) ∧
  ∀ σ' H' us, H' p = some (.ins Cc dx (ks'.zip us)) → us.length = xs'.length → ks'.length = xs'.length → RepL C.K H' C.B0 xs' us → (∀ a o, H0 a = some o → a ≠ p → H' a = some o) → (∀ a, H' a = none → H0 a = none) → D.nx σ' H'
/-- a statement under any of a family of readings -/
theorem ps_ex {ι : Type} {st : Stmt} {t : ι → TS} (h : ∀ i, PS X st (t i)) : PS X st (fun D σ H => ∃ i, t i D σ H) :=
  ⟨fun pins s σ H D I ⟨i, q⟩ => (h i).run pins s σ H D I q⟩
theorem ps_when {st : Stmt} {t : TS} {p : Prop} (h : p → PS X st t) : PS X st (fun D σ H => p ∧ t D σ H) :=
  ⟨fun pins s σ H D I ⟨i, q⟩ => (h i).run pins s σ H D I q⟩
theorem repl_zip {K : PySem.W.Frag} {H : Hp} {B : AP'} : ∀ {xs : List D} {vs : List V}, vs.length = xs.length → (∀ d v, (d, v) ∈ xs.zip vs → Rep K H B d v) → RepL K H B xs vs
  | [], [], _, _ => rfl
  | [], _ :: _, l, _ => by simp at l
  | _ :: _, [], l, _ => by simp at l
  | x :: xs, v :: vs, l, h => ⟨v, vs, rfl, h x v (by simp), repl_zip (by simpa using l) fun d v' m => h d v' (by rw [List.zip_cons_cons]; exact List.mem_cons_of_mem _ m)⟩
/-- one statement of a making, not a field's -/
def tMs (C : Ctx) (p Cc dx : Addr) (s : Sm) : TS := fun D σ H => ∃ i : List PySem.Str × List Mn.D × List V, i.2.2.length = i.2.1.length ∧ tS (mkC C p Cc dx i.1 i.2.1 i.2.2) s D σ H
theorem s_mks {p Cc dx : Addr} {c : PySem.Str} {fl : List PySem.Str} (x : XS X C G lv N sc) (ne : noE G = true) (hcl : ∀ f ∈ fl, (c, f) ∈ G.ca) (hn : PySem.W.nsIn X.K mainGlobals c = some (some (.ref Cc))) (hP : C.P 0 = some p) {s : Sm} {st : Stmt} (h : ckS { G with slf := some fl } N sc s st = true) : PS X st (tMs C p Cc dx s) :=
  ps_ex fun i => ps_when fun hl => (sndS_all s).s (xs_mk x ne hcl hn hP hl) h
theorem m_step {p Cc dx : Addr} {s r : Sm} {st : Stmt} {sts : List Stmt} (h1 : PS X st (tMs C p Cc dx s)) (h2 : PSs X sts (tM C p Cc dx r))
    (hs : ∀ env ks xs ks' xs', evM C.F C.fuel (.seq s r) env ks xs = some (ks', xs') → ∃ e1, evS (sfF C.F ks xs) C.fuel s env = some (.nx, e1) ∧ evM C.F C.fuel r e1 ks xs = some (ks', xs')) : PSs X (st :: sts) (tM C p Cc dx (.seq s r)) := (pss_cons h1 h2).imp fun D σ H h => by
  obtain ⟨ks, xs, vs, B, M, env, ks', xs', H0, sm, l1, l2, l3, ev, k1, k2, k3, q⟩ := h
  obtain ⟨e1, g1, g3⟩ := hs _ _ _ _ _ ev
  refine ⟨(ks, xs, vs), l1, B, M, env, .nx, e1, sm, g1, fun σ1 H1 B1 M1 s1 n1 => ?_⟩
  refine ⟨ks, xs, vs, B1, M1, e1, ks', xs', H0, s1, l1, l2, l3, g3, ?_, ?_, ?_, q⟩
  · exact fun a o h ne => n1.keep a o (k1 a o h ne) fun m => by rw [k3 a m] at h; cases h
  · exact fun a h => k2 a (n1.al a h)
  · exact fun a m => (n1.m a m).elim (k3 a) (k2 a)
theorem evM_sset {F : FT} {fuel : Nat} {f : PySem.Str} {e : Ex} {r : Sm} {env : Env} {ks : List PySem.Str} {xs : List D} {ks' : List PySem.Str} {xs' : List D} (h : evM F fuel (.seq (.sset f e) r) env ks xs = some (ks', xs')) :
    ∃ d t, evE (sfF F ks xs) e env = some (d, some .slf :: t) ∧ f ∉ ks ∧ evM F fuel r (some .slf :: t) (ks ++ [f]) (xs ++ [d]) = some (ks', xs') := by
  rw [evM] at h
  obtain ⟨⟨d, e1⟩, h1, h⟩ := bind_some h
  match e1, h1, h with
  | some .slf :: t, h1, h =>
    have h : (if f ∈ ks then none else evM F fuel r (some .slf :: t) (ks ++ [f]) (xs ++ [d])) = some (ks', xs') := h
    by_cases q : f ∈ ks
    · rw [if_pos q] at h; cases h
    · rw [if_neg q] at h; exact ⟨d, t, h1, q, h⟩
  | [], _, h => cases h
  | none :: _, _, h => cases h
  | some (.val _) :: _, _, h => cases h
  | some (.own _) :: _, _, h => cases h
  | some (.par _) :: _, _, h => cases h
theorem evM_len : ∀ {its : Sm} {F : FT} {fuel : Nat} {env : Env} {ks : List PySem.Str} {xs : List D} {ks' : List PySem.Str} {xs' : List D}, evM F fuel its env ks xs = some (ks', xs') → ks.length ≤ ks'.length
  | .nil, F, fuel, env, ks, xs, ks', xs', h => by cases h; exact Nat.le_refl _
  | .seq (.sset f e) r, F, fuel, env, ks, xs, ks', xs', h => by
    obtain ⟨d, t, _, q, h⟩ := evM_sset h
    have := evM_len h
    simp at this; omega
  | .seq .nil r, F, fuel, env, ks, xs, ks', xs', h => by
    obtain ⟨⟨fl, e1⟩, _, h⟩ := bind_some h
    cases fl <;> first | exact evM_len (its := r) h | cases h
  | .seq (.seq _ _) r, F, fuel, env, ks, xs, ks', xs', h => by
    obtain ⟨⟨fl, e1⟩, _, h⟩ := bind_some h
    cases fl <;> first | exact evM_len (its := r) h | cases h
  | .seq (.asg _ _) r, F, fuel, env, ks, xs, ks', xs', h => by
    obtain ⟨⟨fl, e1⟩, _, h⟩ := bind_some h
    cases fl <;> first | exact evM_len (its := r) h | cases h
  | .seq (.own _ _) r, F, fuel, env, ks, xs, ks', xs', h => by
    obtain ⟨⟨fl, e1⟩, _, h⟩ := bind_some h
    cases fl <;> first | exact evM_len (its := r) h | cases h
  | .seq (.unp _ _) r, F, fuel, env, ks, xs, ks', xs', h => by
    obtain ⟨⟨fl, e1⟩, _, h⟩ := bind_some h
    cases fl <;> first | exact evM_len (its := r) h | cases h
  | .seq (.par _ _ _ _ _ _) r, F, fuel, env, ks, xs, ks', xs', h => by
    obtain ⟨⟨fl, e1⟩, _, h⟩ := bind_some h
    cases fl <;> first | exact evM_len (its := r) h | cases h
  | .seq (.par3 _ _ _ _) r, F, fuel, env, ks, xs, ks', xs', h => by
    obtain ⟨⟨fl, e1⟩, _, h⟩ := bind_some h
    cases fl <;> first | exact evM_len (its := r) h | cases h
  | .seq (.app _ _) r, F, fuel, env, ks, xs, ks', xs', h => by
    obtain ⟨⟨fl, e1⟩, _, h⟩ := bind_some h
    cases fl <;> first | exact evM_len (its := r) h | cases h
  | .seq (.seti _ _ _) r, F, fuel, env, ks, xs, ks', xs', h => by
    obtain ⟨⟨fl, e1⟩, _, h⟩ := bind_some h
    cases fl <;> first | exact evM_len (its := r) h | cases h
  | .seq (.ret _) r, F, fuel, env, ks, xs, ks', xs', h => by
    obtain ⟨⟨fl, e1⟩, _, h⟩ := bind_some h
    cases fl <;> first | exact evM_len (its := r) h | cases h
  | .seq .retn r, F, fuel, env, ks, xs, ks', xs', h => by
    obtain ⟨⟨fl, e1⟩, _, h⟩ := bind_some h
    cases fl <;> first | exact evM_len (its := r) h | cases h
  | .seq (.iff _ _ _) r, F, fuel, env, ks, xs, ks', xs', h => by
    obtain ⟨⟨fl, e1⟩, _, h⟩ := bind_some h
    cases fl <;> first | exact evM_len (its := r) h | cases h
  | .seq (.whl _ _) r, F, fuel, env, ks, xs, ks', xs', h => by
    obtain ⟨⟨fl, e1⟩, _, h⟩ := bind_some h
    cases fl <;> first | exact evM_len (its := r) h | cases h
  | .seq (.for_ _ _ _ _) r, F, fuel, env, ks, xs, ks', xs', h => by
    obtain ⟨⟨fl, e1⟩, _, h⟩ := bind_some h
    cases fl <;> first | exact evM_len (its := r) h | cases h
  | .seq .brk r, F, fuel, env, ks, xs, ks', xs', h => by
    obtain ⟨⟨fl, e1⟩, _, h⟩ := bind_some h
    cases fl <;> first | exact evM_len (its := r) h | cases h
  | .seq .cnt r, F, fuel, env, ks, xs, ks', xs', h => by
    obtain ⟨⟨fl, e1⟩, _, h⟩ := bind_some h
    cases fl <;> first | exact evM_len (its := r) h | cases h
  | .seq .pas r, F, fuel, env, ks, xs, ks', xs', h => by
    obtain ⟨⟨fl, e1⟩, _, h⟩ := bind_some h
    cases fl <;> first | exact evM_len (its := r) h | cases h
  | .seq (.exp _) r, F, fuel, env, ks, xs, ks', xs', h => by
    obtain ⟨⟨fl, e1⟩, _, h⟩ := bind_some h
    cases fl <;> first | exact evM_len (its := r) h | cases h
  | .seq .never r, F, fuel, env, ks, xs, ks', xs', h => by
    obtain ⟨⟨fl, e1⟩, _, h⟩ := bind_some h
    cases fl <;> first | exact evM_len (its := r) h | cases h
theorem evM_gen {F : FT} {fuel : Nat} {s r : Sm} {env : Env} {ks : List PySem.Str} {xs : List D} {ks' : List PySem.Str} {xs' : List D} (hn : ∀ f e, s ≠ .sset f e) (h : evM F fuel (.seq s r) env ks xs = some (ks', xs')) :
    ∃ e1, evS (sfF F ks xs) fuel s env = some (.nx, e1) ∧ evM F fuel r e1 ks xs = some (ks', xs') := by
  rw [evM.eq_3 _ _ _ _ _ _ _ (by intro f e z; exact hn f e z)] at h
  obtain ⟨⟨fl, e1⟩, h1, h⟩ := bind_some h
  cases fl with
  | nx => exact ⟨e1, h1, h⟩
  | rt d => cases h
  | bk => cases h
  | ct => cases h
theorem m_nil {p Cc dx : Addr} : PSs X [] (tM C p Cc dx .nil) := pss_nil.imp fun D σ H h => by
  obtain ⟨ks, xs, vs, B, M, env, ks', xs', H0, sm, l1, l2, l3, ev, k1, k2, k3, q⟩ := h
  cases ev
  exact q σ H vs (sm.kp p (Cc, dx, ks.zip vs) (if_pos rfl)).1 l1 l2 ((repl_zip l1 fun d v m => sm.ex d v m).less sm.bl sm.lo) k1 k2
theorem m_sset {p Cc dx : Addr} {c y : PySem.Str} {fl : List PySem.Str} (x : XS X C G lv N sc) (ne : noE G = true) (hcl : ∀ f ∈ fl, (c, f) ∈ G.ca) (hn : PySem.W.nsIn X.K mainGlobals c = some (some (.ref Cc))) (hP : C.P 0 = some p) (hB : C.B0 p) {f : PySem.Str} {e : Ex} {r : Sm} {ev : Expr} {yp gp pos : Pos} {sts : List Stmt}
    (hy : X.N[0]? = some y) (hv : Vis X.env.scope y) (hd : (y == ("__debug__" : PySem.Str)) = false) (hcd : (y == ("__classdict__" : PySem.Str)) = false) (hf : (c, f) ∈ G.ca) (ht : notTC ev = true) (h1 : ckE { G with slf := some fl } N sc e ev = true) (h2 : PSs X sts (tM C p Cc dx r)) :
    PSs X (.Assign [.Attribute (.Name y yp) f gp] ev pos :: sts) (tM C p Cc dx (.seq (.sset f e) r)) := by
  have hs : swapsWith ev (some (.Attribute (.Name y yp) f gp)) pos.line X.env = pure false := by
    cases ev <;> first | rfl | cases ht
  have P1 : PS X (.Assign [.Attribute (.Name y yp) f gp] ev pos) (fun D σ H => ∃ i : List PySem.Str × List Mn.D × List V, i.2.2.length = i.2.1.length ∧ sFld X.K (tVar 0) (tE (mkC C p Cc dx i.1 i.2.1 i.2.2) e) f D σ H) :=
    ps_ex fun i => ps_when fun hl => ps_fld (pe_var hy hv hd hcd) ((snd_all e).e (xs_mk x ne hcl hn hP hl).toXOk h1) hs
  refine (pss_cons P1 h2).imp fun D σ H h => ?_
  obtain ⟨ks, xs, vs, B, M, env, ks', xs', H0, sm, l1, l2, l3, ev, k1, k2, k3, q⟩ := h
  obtain ⟨d, t, g1, g2, g3⟩ := evM_sset ev
  refine ⟨(ks, xs, vs), l1, B, M, env, d, _, sm, g1, fun v H1 B1 M1 s1 r1 n1 => ?_⟩
  obtain ⟨p', p1, p2⟩ := s1.sl 0 rfl
  have hP' : (mkC C p Cc dx ks xs vs).P 0 = some p := hP
  rw [hP'] at p1; cases p1
  obtain ⟨Cc', hn', cl, na⟩ := x.ca _ hf
  have hCC : Cc' = Cc := by
    have := hn'.symm.trans hn
    simpa using this
  subst hCC
  have kp := s1.kp p (Cc', dx, ks.zip vs) (if_pos rfl)
  have ll := evM_len g3
  rw [List.length_append] at ll
  have zl : (ks.zip vs).length = ks.length := by rw [List.length_zip]; omega
  refine ⟨.ref p, p2, p, Cc', dx, ks.zip vs, rfl, kp.1, cl, na, by rw [zl]; omega, ?_⟩
  rw [putF_new g2 (by omega)]
  have hp0 : ∀ {H : Hp} {o : HO} {a : Addr}, a ≠ p → upd H p o a = H a := fun h => upd_ne h
  refine ⟨ks ++ [f], xs ++ [d], vs ++ [v], B1, M1, _, ks', xs', H0, s1.mkset (s1.lo p hB) l1 r1, ?_, ?_, l3, g3, ?_, ?_, ?_, q⟩
  · rw [List.length_append, List.length_append, l1]; rfl
  · rw [List.length_append, List.length_append, l2]; rfl
  · exact fun a o h ne => by rw [upd_ne ne]; exact n1.keep a o (k1 a o h ne) fun m => by rw [k3 a m] at h; cases h
  · intro a h
    exact k2 a (n1.al a (upd_none h))
  · exact fun a m => (n1.m a m).elim (k3 a) (k2 a)
theorem ckM_sset {c : PySem.Str} {fl : List PySem.Str} {f : PySem.Str} {e : Ex} {r : Sm} {st : Stmt} {sts : List Stmt} (h : ckM c fl G N sc (.seq (.sset f e) r) (st :: sts) = true) :
    ∃ y yp gp ev pos, st = .Assign [.Attribute (.Name y yp) f gp] ev pos ∧ nm N sc 0 y = true ∧ (c, f) ∈ G.ca ∧ notTC ev = true ∧ ckE { G with slf := some fl } N sc e ev = true ∧ ckM c fl G N sc r sts = true := by
  unfold ckM at h
  split at h
  · rename_i heq1 heq2; cases heq1
  · rename_i heq1 heq2; cases heq1; cases heq2
    simp only [Bool.and_eq_true, decide_eq_true_eq] at h
    obtain ⟨⟨⟨⟨⟨rfl, h2⟩, h3⟩, h4⟩, h5⟩, h6⟩ := h
    exact ⟨_, _, _, _, _, rfl, h2, h3, h4, h5, h6⟩
  · cases h
  · rename_i hq heq1 heq2; cases heq1; exact absurd rfl (hq _ _)
  · cases h
theorem q_make {p Cc dx : Addr} {c : PySem.Str} {fl : List PySem.Str} (x : XS X C G lv N sc) (ne : noE G = true) (hcl : ∀ f ∈ fl, (c, f) ∈ G.ca) (hn : PySem.W.nsIn X.K mainGlobals c = some (some (.ref Cc))) (hP : C.P 0 = some p) (hB : C.B0 p) :
    ∀ (its : Sm) {sts : List Stmt}, ckM c fl G N sc its sts = true → PSs X sts (tM C p Cc dx its)
  | .nil, [], _ => m_nil
  | .nil, _ :: _, h => by cases h
  | .seq s r, [], h => by cases s <;> cases h
  | .seq s r, st :: sts, h => by
    by_cases hs : ∃ f e, s = .sset f e
    · obtain ⟨f, e, rfl⟩ := hs
      obtain ⟨y, yp, gp, ev, pos, rfl, h2, h3, h4, h5, h6⟩ := ckM_sset h
      obtain ⟨g1, g2, g3, g4⟩ := nmOk x.toXOk h2
      exact m_sset x ne hcl hn hP hB g1 g2 g3 g4 h3 h4 h5 (q_make x ne hcl hn hP hB r h6)
    · have hs' : ∀ f e, s ≠ .sset f e := fun f e z => hs ⟨f, e, z⟩
      have h' : ckS { G with slf := some fl } N sc s st = true ∧ ckM c fl G N sc r sts = true := by
        rw [← Bool.and_eq_true, ← h]
        cases s <;> first | rfl | exact absurd rfl (hs' _ _)
      exact m_step (s_mks x ne hcl hn hP h'.1) (q_make x ne hcl hn hP hB r h'.2) fun env ks xs ks' xs' e => evM_gen hs' e
  | .asg _ _, _, h => by cases h
  | .own _ _, _, h => by cases h
  | .unp _ _, _, h => by cases h
  | .par _ _ _ _ _ _, _, h => by cases h
  | .par3 _ _ _ _, _, h => by cases h
  | .app _ _, _, h => by cases h
  | .seti _ _ _, _, h => by cases h
  | .ret _, _, h => by cases h
  | .retn, _, h => by cases h
  | .iff _ _ _, _, h => by cases h
  | .whl _ _, _, h => by cases h
  | .for_ _ _ _ _, _, h => by cases h
  | .brk, _, h => by cases h
  | .cnt, _, h => by cases h
  | .pas, _, h => by cases h
  | .exp _, _, h => by cases h
  | .never, _, h => by cases h
  | .sset _ _, _, h => by cases h
def mlen : Sm → Nat | .seq _ r => mlen r + 1 | _ => 0
theorem evM_cap : ∀ {its : Sm} {F : FT} {fuel : Nat} {env : Env} {ks : List PySem.Str} {xs : List D} {ks' : List PySem.Str} {xs' : List D}, evM F fuel its env ks xs = some (ks', xs') → ks'.length ≤ ks.length + mlen its
  | .nil, F, fuel, env, ks, xs, ks', xs', h => by cases h; exact Nat.le_refl _
  | .seq s r, F, fuel, env, ks, xs, ks', xs', h => by
    show _ ≤ _ + (mlen r + 1)
    by_cases hs : ∃ f e, s = .sset f e
    · obtain ⟨f, e, rfl⟩ := hs
      obtain ⟨d, t, _, _, h⟩ := evM_sset h
      have := evM_cap h
      simp at this; omega
    · obtain ⟨e1, _, h⟩ := evM_gen (fun f e z => hs ⟨f, e, z⟩) h
      have := evM_cap h
      omega
  | .asg _ _, _, _, _, _, _, _, _, h => by cases h
  | .own _ _, _, _, _, _, _, _, _, h => by cases h
  | .unp _ _, _, _, _, _, _, _, _, h => by cases h
  | .par _ _ _ _ _ _, _, _, _, _, _, _, _, h => by cases h
  | .par3 _ _ _ _, _, _, _, _, _, _, _, h => by cases h
  | .app _ _, _, _, _, _, _, _, _, h => by cases h
  | .seti _ _ _, _, _, _, _, _, _, _, h => by cases h
  | .ret _, _, _, _, _, _, _, _, h => by cases h
  | .retn, _, _, _, _, _, _, _, h => by cases h
  | .iff _ _ _, _, _, _, _, _, _, _, h => by cases h
  | .whl _ _, _, _, _, _, _, _, _, h => by cases h
  | .for_ _ _ _ _, _, _, _, _, _, _, _, h => by cases h
  | .brk, _, _, _, _, _, _, _, h => by cases h
  | .cnt, _, _, _, _, _, _, _, h => by cases h
  | .pas, _, _, _, _, _, _, _, h => by cases h
  | .exp _, _, _, _, _, _, _, _, h => by cases h
  | .never, _, _, _, _, _, _, _, h => by cases h
  | .sset _ _, _, _, _, _, _, _, _, h => by cases h
end Mn

namespace Mn
open PySem L2 RZ
variable {K : PySem.W.Frag} {H H' : Hp} {B B' : AP'}

theorem argR_len : ∀ {ss : List Sl} {vs : List V} {ps : List Addr}, ArgR K H B ss vs ps → vs.length = ss.length
  | [], vs, ps, h => by rw [h.1]; rfl
  | .val d :: r, vs, ps, h => by
    obtain ⟨v, t, rfl, _, q⟩ := h
    rw [List.length_cons, List.length_cons, argR_len q]
  | .par xs :: r, vs, ps, h => by
    obtain ⟨a, t, q, ws, rfl, rfl, _, _, _, z⟩ := h
    rw [List.length_cons, List.length_cons, argR_len z]
  | .own _ :: _, _, _, h => h.elim
  | .slf :: _, _, _, h => h.elim
theorem argR_val : ∀ {ss : List Sl} {vs : List V} {ps : List Addr} {i : Nat} {d : D}, ArgR K H B ss vs ps → ss[i]? = some (.val d) → ∃ v, vs[i]? = some v ∧ Rep K H B d v
  | [], vs, ps, i, d, h, e => by simp at e
  | .val d' :: r, vs, ps, i, d, h, e => by
    obtain ⟨v, t, rfl, g, q⟩ := h
    cases i with
    | zero => simp at e; subst e; exact ⟨v, rfl, g⟩
    | succ i => rw [List.getElem?_cons_succ] at e ⊢; exact argR_val q e
  | .par xs :: r, vs, ps, i, d, h, e => by
    obtain ⟨a, t, q, ws, rfl, rfl, _, _, _, z⟩ := h
    cases i with
    | zero => simp at e
    | succ i => rw [List.getElem?_cons_succ] at e ⊢; exact argR_val z e
  | .own _ :: _, _, _, _, _, h, _ => h.elim
theorem argR_own : ∀ {ss : List Sl} {vs : List V} {ps : List Addr} {i : Nat} {xs : List D}, ArgR K H B ss vs ps → ss[i]? = some (.own xs) → False
  | [], vs, ps, i, d, h, e => by simp at e
  | .val d' :: r, vs, ps, i, d, h, e => by
    obtain ⟨v, t, rfl, g, q⟩ := h
    cases i with
    | zero => simp at e
    | succ i => rw [List.getElem?_cons_succ] at e; exact argR_own q e
  | .par xs :: r, vs, ps, i, d, h, e => by
    obtain ⟨a, t, q, ws, rfl, rfl, _, _, _, z⟩ := h
    cases i with
    | zero => simp at e
    | succ i => rw [List.getElem?_cons_succ] at e; exact argR_own z e
  | .own _ :: _, _, _, _, _, h, _ => h.elim
theorem argR_par : ∀ {ss : List Sl} {vs : List V} {ps : List Addr} {i : Nat} {xs : List D}, ArgR K H B ss vs ps → ss[i]? = some (.par xs) →
    ∃ a ws, vs[i]? = some (.ref a) ∧ a ∈ ps ∧ H a = some (.lst ws) ∧ RepL K H B xs ws ∧ B a
  | [], vs, ps, i, d, h, e => by simp at e
  | .val d' :: r, vs, ps, i, d, h, e => by
    obtain ⟨v, t, rfl, g, q⟩ := h
    cases i with
    | zero => simp at e
    | succ i => rw [List.getElem?_cons_succ] at e ⊢; exact argR_par q e
  | .par xs :: r, vs, ps, i, d, h, e => by
    obtain ⟨a, t, q, ws, rfl, rfl, h1, h2, h3, z⟩ := h
    cases i with
    | zero => simp at e; subst e; exact ⟨a, ws, rfl, by simp, h1, h2, h3⟩
    | succ i =>
      rw [List.getElem?_cons_succ] at e ⊢
      obtain ⟨a', ws', g1, g2, g3⟩ := argR_par z e
      exact ⟨a', ws', g1, by simp [g2], g3⟩
  | .own _ :: _, _, _, _, _, h, _ => h.elim
theorem argR_inj : ∀ {ss : List Sl} {vs : List V} {ps : List Addr} {i j : Nat} {xs ys : List D} {a : Addr}, ArgR K H B ss vs ps → ps.Nodup → ss[i]? = some (.par xs) → ss[j]? = some (.par ys) →
    vs[i]? = some (.ref a) → vs[j]? = some (.ref a) → i = j
  | [], vs, ps, i, j, d, _, _, h, _, e, _, _, _ => by simp at e
  | .val d' :: r, vs, ps, i, j, d, _, _, h, nd, e, e', f, f' => by
    obtain ⟨v, t, rfl, g, q⟩ := h
    cases i with
    | zero => simp at e
    | succ i => cases j with
      | zero => simp at e'
      | succ j =>
        rw [List.getElem?_cons_succ] at e e' f f'
        rw [argR_inj q nd e e' f f']
  | .par xs :: r, vs, ps, i, j, d, _, a, h, nd, e, e', f, f' => by
    obtain ⟨a', t, q, ws, rfl, rfl, h1, h2, h3, z⟩ := h
    rw [List.nodup_cons] at nd
    cases i with
    | zero => cases j with
      | zero => rfl
      | succ j =>
        rw [List.getElem?_cons_succ] at e' f'
        obtain ⟨b, _, g1, g2, _⟩ := argR_par z e'
        rw [f'] at g1; cases g1
        rw [List.getElem?_cons_zero] at f; cases f
        exact absurd g2 nd.1
    | succ i => cases j with
      | zero =>
        rw [List.getElem?_cons_succ] at e f
        obtain ⟨b, _, g1, g2, _⟩ := argR_par z e
        rw [f] at g1; cases g1
        rw [List.getElem?_cons_zero] at f'; cases f'
        exact absurd g2 nd.1
      | succ j =>
        rw [List.getElem?_cons_succ] at e e' f f'
        rw [argR_inj z nd.2 e e' f f']
  | .own _ :: _, _, _, _, _, _, _, _, h, _, _, _, _, _ => h.elim
theorem outs_ok {H2 : Hp} : ∀ {ss : List Sl} {vs : List V} {ps : List Addr} {e : Env} {outs : List (List D)}, ArgR K H B ss vs ps → outsOf ss e = some outs →
    (∀ (i : Nat) (xs : List D), e[i]? = some (some (.par xs)) → ∃ a ws, vs[i]? = some (.ref a) ∧ H2 a = some (.lst ws) ∧ RepL K H2 B' xs ws) → OutR K H2 B' outs ps
  | [], vs, ps, e, outs, h, g, f => by
    cases g
    rw [h.2]
    unfold OutR; trivial
  | .val d :: r, vs, ps, [], outs, h, g, f => by cases g
  | .val d :: r, vs, ps, s :: e, outs, h, g, f => by
    obtain ⟨v, t, rfl, _, q⟩ := h
    refine outs_ok q (e := e) ?_ fun i xs hi => ?_
    · rw [← g]; rfl
    · obtain ⟨a, ws, z⟩ := f (i + 1) xs (by rw [List.getElem?_cons_succ]; exact hi)
      rw [List.getElem?_cons_succ] at z
      exact ⟨a, ws, z⟩
  | .par xs :: r, vs, ps, [], outs, h, g, f => by cases g
  | .par xs :: r, vs, ps, none :: e, outs, h, g, f => by cases g
  | .par xs :: r, vs, ps, some (.val _) :: e, outs, h, g, f => by cases g
  | .par xs :: r, vs, ps, some (.own _) :: e, outs, h, g, f => by cases g
  | .par xs :: r, vs, ps, some (.par ys) :: e, outs, h, g, f => by
    obtain ⟨a, t, q, ws, rfl, rfl, h1, h2, h3, z⟩ := h
    have g' : (outsOf r e).map (ys :: ·) = some outs := g
    rw [Option.map_eq_some_iff] at g'
    obtain ⟨os, g1, rfl⟩ := g'
    obtain ⟨a', ws', e1, e2, e3⟩ := f 0 ys rfl
    rw [List.getElem?_cons_zero] at e1; cases e1
    have rest : OutR K H2 B' os q := outs_ok z g1 fun i xs hi => by
      obtain ⟨a, ws, z⟩ := f (i + 1) xs (by rw [List.getElem?_cons_succ]; exact hi)
      rw [List.getElem?_cons_succ] at z
      exact ⟨a, ws, z⟩
    unfold OutR
    exact ⟨_, _, ws', rfl, e2, e3, rest⟩
  | .own _ :: _, _, _, _, _, h, _, _ => h.elim

theorem env_get {α : Type} {ss : List α} {n i : Nat} {s : α} (h : (ss.map some ++ List.replicate n none)[i]? = some (some s)) : ss[i]? = some s := by
  rw [List.getElem?_append] at h
  split at h
  · rw [List.getElem?_map] at h
    cases q : ss[i]? with
    | none => rw [q] at h; cases h
    | some x => rw [q] at h; cases h; rfl
  · rw [List.getElem?_replicate] at h
    split at h <;> cases h
theorem get_env {α : Type} {ss : List α} {n i : Nat} {s : α} (h : ss[i]? = some s) : (ss.map some ++ List.replicate n none)[i]? = some (some s) := by
  rw [List.getElem?_append_left, List.getElem?_map, h]; rfl
  rw [List.length_map]
  exact (List.getElem?_eq_some_iff.1 h).1
def Pof (vs : List V) (i : Nat) : Option Addr := match vs[i]? with | some (.ref a) => some a | _ => none
theorem Pof_get {vs : List V} {i : Nat} {a : Addr} (h : vs[i]? = some (.ref a)) : Pof vs i = some a := by unfold Pof; rw [h]
theorem get_Pof {vs : List V} {i : Nat} {a : Addr} (h : Pof vs i = some a) : vs[i]? = some (.ref a) := by
  unfold Pof at h
  split at h
  · cases h; assumption
  · cases h
theorem mutS_get {env : Env} {i : Nat} {xs : List D} (h : mutS env i = some xs) : env[i]? = some (some (.own xs)) ∨ env[i]? = some (some (.par xs)) := by
  unfold mutS at h
  split at h
  · cases h; exact .inl (by assumption)
  · cases h; exact .inr (by assumption)
  · cases h
theorem sim0 {ss : List Sl} {vs : List V} {ps : List Addr} {N : List PySem.Str} {F : FT} {fuel : Nat} (bl : BL H B) (h : ArgR K H B ss vs ps) (nd : ps.Nodup) :
    Sim ⟨K, Pof vs, B, F, fuel, fun _ => none, []⟩ H B (fun a => a ∈ ps) (L2.start N vs) (ss.map some ++ List.replicate (N.length - ss.length) none) where
  len := by
    show (vs.map some ++ _).length = _
    rw [List.length_append, List.length_append, List.length_map, List.length_map, List.length_replicate, List.length_replicate, argR_len h]
  bl := bl
  mb := by
    have : ∀ {ss : List Sl} {vs : List V} {ps : List Addr}, ArgR K H B ss vs ps → ∀ a, a ∈ ps → B a := by
      intro ss
      induction ss with
      | nil => intro vs ps h a m; rw [h.2] at m; cases m
      | cons s r ih =>
        intro vs ps h a m
        cases s with
        | val d => obtain ⟨v, t, rfl, _, q⟩ := h; exact ih q a m
        | own _ => exact h.elim
        | slf => exact h.elim
        | par xs =>
          obtain ⟨a', t, q, ws, rfl, rfl, h1, h2, h3, z⟩ := h
          rcases List.mem_cons.1 m with rfl | m
          · exact h3
          · exact ih z a m
    exact this h
  lo := fun _ z => z
  val := fun i d e => by
    obtain ⟨v, e1, r⟩ := argR_val h (env_get e)
    exact ⟨v, get_env e1, r⟩
  own := fun i xs e => (argR_own h (env_get e)).elim
  par := fun i xs e => by
    obtain ⟨a, ws, e1, m, e2, r, b⟩ := argR_par h (env_get e)
    exact ⟨a, ws, Pof_get e1, get_env e1, e2, r, m⟩
  inj := fun i j xs ys a m m' e e' => by
    rcases mutS_get m with q | q
    · exact (argR_own h (env_get q)).elim
    · rcases mutS_get m' with q' | q'
      · exact (argR_own h (env_get q')).elim
      · exact argR_inj h nd (env_get q) (env_get q') (env_get e) (env_get e')
  kp := fun _ _ h => nomatch h
  ex := fun _ _ h => nomatch h
  sl := fun i e => by
    have : ∀ {ss : List Sl} {vs : List V} {ps : List Addr} {i : Nat}, ArgR K H B ss vs ps → ss[i]? ≠ some .slf := by
      intro ss
      induction ss with
      | nil => intro vs ps i h e; simp at e
      | cons s r ih =>
        intro vs ps i h e
        cases s with
        | val d =>
          obtain ⟨v, t, rfl, _, q⟩ := h
          cases i with
          | zero => simp at e
          | succ i => rw [List.getElem?_cons_succ] at e; exact ih q e
        | own _ => exact h.elim
        | slf => exact h.elim
        | par xs =>
          obtain ⟨a', t, q, ws, rfl, rfl, h1, h2, h3, z⟩ := h
          cases i with
          | zero => simp at e
          | succ i => rw [List.getElem?_cons_succ] at e; exact ih z e
    exact (this h (env_get e)).elim
theorem vals_slot {ds : List D} {i : Nat} {s : Sl} (h : (ds.map Sl.val)[i]? = some s) : ∃ d, s = .val d := by
  rw [List.getElem?_map] at h
  cases q : ds[i]? with
  | none => rw [q] at h; cases h
  | some d => rw [q] at h; exact ⟨d, (by simpa using h.symm)⟩
/-- at a making's begin -/
theorem simM {x Cc dx : Addr} {ds : List D} {ws : List V} {N : List PySem.Str} {F : FT} {fuel : Nat} (bl : BL H B) (hx : H x = some (.ins Cc dx [])) (r : RepL K H B ds ws) :
    Sim (mkC ⟨K, Pof (.ref x :: ws), B, F, fuel, fun _ => none, []⟩ x Cc dx [] [] []) H B (fun _ => False) (L2.start N (.ref x :: ws)) (some .slf :: ((ds.map Sl.val).map some ++ List.replicate (N.length - (ds.map Sl.val).length - 1) none)) where
  len := by
    show ((V.ref x :: ws).map some ++ _).length = _
    rw [List.length_append, List.length_map, List.length_replicate, List.length_cons, List.length_cons, List.length_append, List.length_map, List.length_map, List.length_replicate, r.len]
    omega
  bl := bl
  mb := fun _ z => z.elim
  lo := fun _ z => z
  val := fun i d e => by
    cases i with
    | zero => simp at e
    | succ i =>
      rw [List.getElem?_cons_succ] at e
      obtain ⟨v, e1, r⟩ := argR_val (argR_vals r) (env_get e)
      exact ⟨v, get_env (ss := V.ref x :: ws) (i := i + 1) e1, r⟩
  own := fun i xs e => by
    cases i with
    | zero => simp at e
    | succ i =>
      rw [List.getElem?_cons_succ] at e
      obtain ⟨d, z⟩ := vals_slot (env_get e)
      cases z
  par := fun i xs e => by
    cases i with
    | zero => simp at e
    | succ i =>
      rw [List.getElem?_cons_succ] at e
      obtain ⟨d, z⟩ := vals_slot (env_get e)
      cases z
  inj := fun i j xs ys a m m' e e' => by
    cases i with
    | zero => cases m
    | succ i =>
      rcases mutS_get m with q | q
      · rw [List.getElem?_cons_succ] at q
        obtain ⟨d, z⟩ := vals_slot (env_get q)
        cases z
      · rw [List.getElem?_cons_succ] at q
        obtain ⟨d, z⟩ := vals_slot (env_get q)
        cases z
  kp := fun a o h => by
    have h : (if a = x then some (Cc, dx, (([] : List PySem.Str).zip ([] : List V))) else none) = some o := h
    by_cases e : a = x
    · rw [if_pos e] at h; cases h; subst e; exact ⟨hx, fun z => z⟩
    · rw [if_neg e] at h; cases h
  ex := fun _ _ h => nomatch h
  sl := fun i e => by
    cases i with
    | zero => exact ⟨x, rfl, rfl⟩
    | succ i =>
      rw [List.getElem?_cons_succ] at e
      obtain ⟨d, z⟩ := vals_slot (env_get e)
      cases z

/-! ### the defs of a text, one above the other -/
variable {P : Program} {w : World} {mg : PySem.Str → Option Value} {base : Heap} {G : GS} {T : List (PySem.Str × FDef)} {fuel : Nat}
/-- a def, wherever it stands -/
structure DefX (K : PySem.W.Frag) (G : GS) (T : List (PySem.Str × FDef)) (f x q : PySem.Str) (n : Nat) (fa : Addr) (fd : FuncData) (dd : FDef) (st : Stmt) : Prop where
  t : T.lookup f = some dd
  cl : dd.cl = none
  F : Fun K x q st fa fd
  S : FnScope dd.ns dd.ps (defScope st)
  ck : ckSs G dd.ns (defScope st) dd.body (defBody st) = true
  len : dd.ps.length = n
/-- a method -/
structure DefO (K : PySem.W.Frag) (G : GS) (T : List (PySem.Str × FDef)) (g x q : PySem.Str) (n : Nat) (c : PySem.Str) (m : PySem.Str × List PySem.Str) (Cc fa : Addr) (fd : FuncData) (dd : FDef) (st : Stmt) : Prop where
  X : DefX K G T g x q n fa fd dd st
  ns : PySem.W.nsIn K mainGlobals c = some (some (.ref Cc))
  cls : Cls K Cc
  meth : Meth K Cc m.1 fa
  b : Binds K fd dd.ps []
  kb : 2 ≤ n → KBinds K fd dd.ps m.2 (gP 1 (n - 1) (List.range n)) (gP 1 (n - 1) (List.range n))
/-- an __init__ -/
structure DefM (K : PySem.W.Frag) (mg : PySem.Str → Option Value) (G : GS) (T : List (PySem.Str × FDef)) (c x q : PySem.Str) (n : Nat) (fl : List PySem.Str) (Cc fa : Addr) (fd : FuncData) (dd : FDef) (st : Stmt) : Prop where
  t : T.lookup c = some dd
  cl : dd.cl = some c
  F : Fun K x q st fa fd
  S : FnScope dd.ns dd.ps (defScope st)
  ck : ckM c fl G dd.ns (defScope st) dd.body (defBody st) = true
  len : dd.ps.length = n + 1
  sz : mlen dd.body < 900
  fl : ∀ f ∈ fl, (c, f) ∈ G.ca
  ns : PySem.W.nsIn K mainGlobals c = some (some (.ref Cc))
  mg : mg c = some (.ref Cc)
  mkr : Mk K Cc fa
  b : Binds K fd dd.ps []
structure DefAt (K : PySem.W.Frag) (mg : PySem.Str → Option Value) (G : GS) (T : List (PySem.Str × FDef)) (f : PySem.Str) (n : Nat) (kf : List (Nat × List PySem.Str × List Nat)) (fa : Addr) (fd : FuncData) (dd : FDef) (st : Stmt) : Prop where
  t : T.lookup f = some dd
  cl : dd.cl = none
  mg : mg f = some (.ref fa)
  F : Fun K f f st fa fd
  S : FnScope dd.ns dd.ps (defScope st)
  ck : ckSs G dd.ns (defScope st) dd.body (defBody st) = true
  len : dd.ps.length = n
  b : Binds K fd dd.ps []
  kb : ∀ t ∈ kf, KBinds K fd dd.ps t.2.1 (gP t.1 t.2.1.length t.2.2) (gP t.1 t.2.1.length t.2.2)
theorem DefAt.X {f : PySem.Str} {n : Nat} {kf : List (Nat × List PySem.Str × List Nat)} {fa : Addr} {fd : FuncData} {dd : FDef} {st : Stmt} (D : DefAt K mg G T f n kf fa fd dd st) : DefX K G T f f f n fa fd dd st := ⟨D.t, D.cl, D.F, D.S, D.ck, D.len⟩
/-! ### a body that ends with a new list -/
def isAsg : Sm → Bool | .asg _ _ => true | _ => false
def isNewR : Ex → Bool | .lst _ => true | .comp _ _ _ _ _ _ => true | _ => false
theorem isNewR_is {x : Ex} (h : isNewR x = true) : isNew x = true := by
  cases x <;> first | rfl | cases h
def lastNew : Sm → Bool
  | .seq s r => match r with
    | .nil => (match s with | .ret x => isNewR x | _ => false)
    | .seq _ _ => isAsg s && lastNew r
    | _ => false
  | _ => false
def tSN (C : Ctx) (x : Sm) : TS := fun D σ H => ∃ B M env d env', Sim C H B M σ env ∧ evS C.F C.fuel x env = some (.rt d, env') ∧
  ∀ p ws H' B' M', H p = none → H' p = some (.lst ws) → (∀ xs, d = .lst xs → RepL C.K H' (ins p B') xs ws) → ¬ B' p → (∀ a, C.B0 a → B' a) → BL H' B' → Nx H B M H' B' M' → D.rt (.ref p) H'
theorem new_body {C : Ctx} {X : Cx} {lv : Nat} {N : List PySem.Str} {sc : Scope} : ∀ (b : Sm) (_ : XS X C G lv N sc) {sts : List Stmt}, ckSs G N sc b sts = true → lastNew b = true → PSs X sts (tSN C b)
  | .seq s r, xs, sts, h, hn => by
    cases sts with
    | nil => (rw [ckSs] at h <;> first | (cases h; done) | (intros; contradiction))
    | cons st sts =>
      rw [ckSs, Bool.and_eq_true] at h
      unfold lastNew at hn
      cases r with
      | nil =>
        cases s <;> first | (cases hn; done) | skip
        rename_i x
        cases sts with
        | cons _ _ => (have h2 := h.2; rw [ckSs] at h2 <;> first | (cases h2; done) | (intros; contradiction))
        | nil =>
          have h1 := h.1
          unfold ckS at h1
          split at h1 <;> first | (cases h1; done) | (rename_i hq; cases hq; done) | (rename_i hq _; cases hq; done) | skip
          rename_i hq; cases hq
          refine (pss_one (ps_ret (new_e (isNewR_is hn) xs.toXOk h1))).imp fun D σ H q => ?_
          obtain ⟨B, M, env, d, env', s', ev, q⟩ := q
          rw [evS] at ev
          obtain ⟨⟨f, e1⟩, g1, ev⟩ := bind_some ev
          rw [evS] at g1
          obtain ⟨⟨y, e2⟩, g2, g1⟩ := bind_some g1
          cases g1; cases ev
          obtain ⟨ys, rfl⟩ : ∃ ys, d = .lst ys := by
            cases x <;> first | (cases hn; done) | skip
            · exact ev_lst_is g2
            · exact ev_comp_is g2
          refine ⟨B, M, env, ys, _, s', g2, fun p vs H' B' M' s2 hp rl nb mb lo h0 n2 => ?_⟩
          refine q p vs H' B' M' h0 hp (fun xs e => by cases e; exact rl) nb lo (fun a z => s2.bl a (.inr z)) n2
      | seq s2 r2 =>
        rw [Bool.and_eq_true] at hn
        refine (pss_cons ((sndS_all s).s xs h.1) (new_body (.seq s2 r2) xs h.2 hn.2)).imp fun D σ H q => ?_
        obtain ⟨B, M, env, d, env', s', ev, q⟩ := q
        rw [evS] at ev
        obtain ⟨⟨f, e1⟩, g1, ev⟩ := bind_some ev
        obtain rfl : f = .nx := by
          cases s <;> first | (cases hn.1; done) | skip
          rw [evS] at g1
          obtain ⟨⟨y, e2⟩, g2, g1⟩ := bind_some g1
          obtain ⟨e3, g3, g1⟩ := bind_some g1
          cases g1; rfl
        refine ⟨B, M, env, .nx, e1, s', g1, fun σ1 H1 B1 M1 s1 n1 => ?_⟩
        refine ⟨B1, M1, e1, d, env', s1, ev, fun p ws H' B' M' hp hp' rl nb lo bl n2 => ?_⟩
        exact q p ws H' B' M' (n1.al p hp) hp' rl nb lo bl (n1.trans n2)
      | _ => cases hn
  | .nil, _, _, _, hn => by cases hn
  | .asg _ _, _, _, _, hn => by cases hn
  | .own _ _, _, _, _, hn => by cases hn
  | .unp _ _, _, _, _, hn => by cases hn
  | .par _ _ _ _ _ _, _, _, _, hn => by cases hn
  | .par3 _ _ _ _, _, _, _, hn => by cases hn
  | .app _ _, _, _, _, hn => by cases hn
  | .seti _ _ _, _, _, _, hn => by cases hn
  | .ret _, _, _, _, hn => by cases hn
  | .retn, _, _, _, hn => by cases hn
  | .iff _ _ _, _, _, _, hn => by cases hn
  | .whl _ _, _, _, _, hn => by cases hn
  | .for_ _ _ _ _, _, _, _, hn => by cases hn
  | .brk, _, _, _, hn => by cases hn
  | .cnt, _, _, _, hn => by cases hn
  | .pas, _, _, _, hn => by cases hn
  | .exp _, _, _, _, hn => by cases hn
  | .never, _, _, _, hn => by cases hn
structure Mod (K : PySem.W.Frag) (mg : PySem.Str → Option Value) (G : GS) (T : List (PySem.Str × FDef)) (fuel : Nat) : Prop where
  bl : ∀ x ∈ G.bl, mg x = none
  mf : ∀ t ∈ G.mf, mg t.1 = some (.builtin t.2)
  co : ∀ n x, x ∈ G.co → ∀ d o, evF T fuel n x [] = some (d, o) → ∃ v u, mg x = some u ∧ RelV v u ∧ ∀ H B, Rep K H B d v
  fn : ∀ f n kf, G.fn.lookup f = some (n, kf) → ∃ fa fd dd st, DefAt K mg G T f n kf fa fd dd st
  nw : ∀ f n, G.nw.lookup f = some n → ∃ fa fd dd st, DefAt K mg G T f n [] fa fd dd st ∧ lastNew dd.body = true
  ca : ∀ t ∈ G.ca, ∃ Cc, PySem.W.nsIn K mainGlobals t.1 = some (some (.ref Cc)) ∧ Cls K Cc ∧ NoAttr K Cc t.2
  mt : ∀ g n c m, G.mt.lookup g = some (n, c, m) → ∃ x q Cc fa fd dd st, DefO K G T g x q n c m Cc fa fd dd st
  mks : ∀ c n, G.mks.lookup c = some n → ∃ x q fl Cc fa fd dd st, DefM K mg G T c x q n fl Cc fa fd dd st
  ne : noE G = true
  slf : G.slf = none
/-- what the calls of a text keep, at one level -/
structure Lv (P : Program) (w : World) (K : PySem.W.Frag) (mg : PySem.Str → Option Value) (base : Heap) (G : GS) (T : List (PySem.Str × FDef)) (fuel lv : Nat) : Prop where
  fn : ∀ f n kf, G.fn.lookup f = some (n, kf) → ∃ fa fd dd st, DefAt K mg G T f n kf fa fd dd st ∧ FnG P w K mg base (2 * lv + 1) fa fd dd.ps (spF K (evF T fuel lv) f n)
  nw : ∀ f n, G.nw.lookup f = some n → ∃ fa fd dd st, DefAt K mg G T f n [] fa fd dd st ∧ FnG P w K mg base (2 * lv + 1) fa fd dd.ps (spN K (evF T fuel lv) f n)
  mt : ∀ g n c m, G.mt.lookup g = some (n, c, m) → ∃ x q Cc fa fd dd st, DefO K G T g x q n c m Cc fa fd dd st ∧ FnG P w K mg base (2 * lv) fa fd dd.ps (spF K (evF T fuel lv) g n)
  mks : ∀ c n, G.mks.lookup c = some n → ∃ x q fl Cc fa fd dd st, DefM K mg G T c x q n fl Cc fa fd dd st ∧ FnG P w K mg base (2 * lv) fa fd dd.ps (spM K (evF T fuel lv) c n)
theorem xs_of (M : Mod K mg G T fuel) {lv : Nat} (L : Lv P w K mg base G T fuel lv) {q : PySem.Str} {dd : FDef} {st : Stmt} (S : FnScope dd.ns dd.ps (defScope st)) {fa : Addr} {cdv : Value} {A : Around} {outer : List PySem.Env} {s : Shared} {H : Hp} {E : XK} {Pa : Nat → Option Addr} {B : AP'}
    (qt : Qt A) (hr : Room (2 * lv + 1) (A.deeper (PyProof.Rows.envOfC q (defScope st) s.heap.objs.size fa cdv))) :
    XS (cxOf CX0 P w K mg base dd.ns q (defScope st) fa cdv A outer s H E).nox ⟨K, Pa, B, evF T fuel lv, fuel, fun _ => none, []⟩ G (2 * lv + 1) dd.ns (defScope st) := by
  refine { n := rfl, nd := S.nd, calm := rfl, K := rfl, kind := S.kind, vis := ?_, loc := ?_, isL := ?_, cf := fun _ h => h, gl := ?_, room := hr, qt := qt.deeper _, bl := M.bl, mf := M.mf, fn := ?_, nw := ?_, co := M.co lv, ca := M.ca, mt := ?_, mkr := ?_, sf := fun fl e => (by rw [M.slf] at e; cases e), sce := rfl, hp := PassesOwn.never }
  · intro x h
    obtain ⟨k, e1, e2⟩ := kind_of h
    show Vis (defScope st) x
    cases k <;> first | exact .inl e1 | exact .inr (.inl e1) | exact .inr (.inr e1) | cases e2
  · intro x h
    obtain ⟨k, e1, e2⟩ := kind_of h
    refine ⟨?_, .inl rfl⟩
    show L2.Loc (defScope st) x
    cases k <;> first | exact .inl e1 | exact .inr e1 | cases e2
  · intro x h
    obtain ⟨k, e1, e2⟩ := kind_of h
    show (defScope st).names.lookup x = some .local
    cases k <;> first | exact e1 | cases e2
  · intro x h
    obtain ⟨k, e1, e2⟩ := kind_of h
    show (defScope st).names.lookup x = some .globalImplicit
    cases k <;> first | exact e1 | cases e2
  · intro f' n' kf' h'
    obtain ⟨fa', fd', dd', st', D', F'⟩ := L.fn f' n' kf' h'
    exact ⟨⟨fa', fd', dd'.ps, D'.mg, D'.F.kp, F', D'.len, D'.b, D'.kb⟩⟩
  · intro f' n' h'
    obtain ⟨fa', fd', dd', st', D', F'⟩ := L.nw f' n' h'
    exact ⟨⟨fa', fd', dd'.ps, D'.mg, D'.F.kp, F', D'.len, D'.b⟩⟩
  · intro g n c m h'
    obtain ⟨x, q', Cc, fa', fd', dd', st', D', F'⟩ := L.mt g n c m h'
    exact ⟨⟨Cc, fa', fd', dd'.ps, 2 * lv, D'.ns, D'.cls, D'.meth, F', Nat.le_refl _, D'.X.len, D'.b, D'.kb⟩⟩
  · intro c n h'
    obtain ⟨x, q', fl, Cc, fa', fd', dd', st', D', F'⟩ := L.mks c n h'
    exact ⟨⟨Cc, fa', fd', dd'.ps, 2 * lv, D'.ns, D'.mg, D'.mkr, F', Nat.le_refl _, D'.len, D'.b⟩⟩
theorem evF_succ {dd : FDef} {f : PySem.Str} {ss : List Sl} {n : Nat} {r : Option (D × List (List D))} (ht : T.lookup f = some dd) (h : evF T fuel (n + 1) f ss = r) : evD (evF T fuel n) fuel dd ss = r := by
  rw [← h]
  show _ = (match T.lookup f with | some d => evD (evF T fuel n) fuel d ss | none => none)
  rw [ht]
theorem if_some {α : Type} {c : Prop} [Decidable c] {x : Option α} {y : α} (h : (if c then x else none) = some y) : c ∧ x = some y := by
  by_cases q : c
  · rw [if_pos q] at h; exact ⟨q, h⟩
  · rw [if_neg q] at h; cases h
theorem step_fn (M : Mod K mg G T fuel) {lv : Nat} (L : Lv P w K mg base G T fuel lv) {f x q : PySem.Str} {n : Nat} {fa : Addr} {fd : FuncData} {dd : FDef} {st : Stmt} (DA : DefX K G T f x q n fa fd dd st) :
    FnG P w K mg base (2 * (lv + 1)) fa fd dd.ps (spF K (evF T fuel (lv + 1)) f n) := by
  refine FnG.mono (j := 2 * lv + 1 + 1) (funG DA.F DA.S (fun vs H Q E h => ?_) (fun cdv A outer s H vs Q E qt hr h => ?_)) (by omega)
  · obtain ⟨B, ss, ps, d, outs, _, _, _, e, _⟩ := h
    rw [e, DA.len]
  · obtain ⟨B, ss, ps, d, outs, bl, ar, nd, hl, e, q⟩ := h
    have e' := evF_succ DA.t e
    unfold evD at e'
    rw [DA.cl] at e'
    replace e' := (if_some e').2
    obtain ⟨⟨fl, env'⟩, g1, e'⟩ := bind_some e'
    obtain ⟨os, g2, e'⟩ := bind_some e'
    have xs := xs_of (outer := outer) (H := H) (E := E) (Pa := Pof vs) (B := B) M L DA.S qt hr
    refine ⟨_, (sndS_all dd.body).l xs DA.ck, B, fun a => a ∈ ps, _, fl, env', sim0 bl ar nd, g1, ?_⟩
    have fin : ∀ (d' : D) (v : V) (σ' : L2.St) (H' : Hp) (B' M' : AP'), d' = d → os = outs → Sim ⟨K, Pof vs, B, evF T fuel lv, fuel, fun _ => none, []⟩ H' B' M' σ' env' → Rep K H' B' d' v → Nx H B (fun a => a ∈ ps) H' B' M' → Q v H' := by
      intro d' v σ' H' B' M' ed eo s' r n'
      subst ed eo
      refine q v H' (r.less s'.bl s'.lo) ?_ n'.keep n'.al
      refine outs_ok ar g2 fun i xs' hi => ?_
      obtain ⟨a, ws, p1, p2, p3, p4, p5⟩ := s'.par i xs' hi
      exact ⟨a, ws, get_Pof p1, p3, p4.less s'.bl s'.lo⟩
    cases fl with
    | nx =>
      cases e'
      intro σ' H' B' M' s' n'
      exact fin .non .non σ' H' B' M' rfl rfl s' rfl n'
    | rt d' =>
      cases e'
      intro v σ' H' B' M' s' r n'
      exact fin _ v σ' H' B' M' rfl rfl s' r n'
    | bk => cases e'
    | ct => cases e'
theorem step_nw (M : Mod K mg G T fuel) {lv : Nat} (L : Lv P w K mg base G T fuel lv) {f : PySem.Str} {n : Nat} {kf : List (Nat × List PySem.Str × List Nat)} {fa : Addr} {fd : FuncData} {dd : FDef} {st : Stmt} (DA : DefAt K mg G T f n kf fa fd dd st) (hn : lastNew dd.body = true) :
    FnG P w K mg base (2 * (lv + 1) + 1) fa fd dd.ps (spN K (evF T fuel (lv + 1)) f n) := by
  refine FnG.mono (j := 2 * lv + 1 + 1) (funG DA.F DA.S (fun vs H Q E h => ?_) (fun cdv A outer s H vs Q E qt hr h => ?_)) (by omega)
  · obtain ⟨B, ds, xs, _, _, e, _⟩ := h
    rw [e, DA.len]
  · obtain ⟨B, ds, zs, bl, ar, hl, e, q⟩ := h
    have e' := evF_succ DA.t e
    unfold evD at e'
    rw [DA.cl] at e'
    replace e' := (if_some e').2
    obtain ⟨⟨fl, env'⟩, g1, e'⟩ := bind_some e'
    obtain ⟨os, g2, e'⟩ := bind_some e'
    have xs := xs_of (outer := outer) (H := H) (E := E) (Pa := Pof vs) (B := B) M L DA.S qt hr
    cases fl with
    | rt d' =>
      cases e'
      refine ⟨_, new_body dd.body xs DA.ck hn, B, fun a => a ∈ ([] : List Addr), _, _, env', sim0 bl (argR_vals ar) List.nodup_nil, g1, fun p ws H' B' M' hp hp' r nb lo bl' n' => ?_⟩
      refine q p H' ws hp hp' ?_ (fun a o h => n'.keep a o h (by simp)) n'.al
      exact (r _ rfl).less (bl'.ins hp') fun a z => z.elim .inl fun z => .inr (lo a z)
    | nx => cases e'
    | bk => cases e'
    | ct => cases e'
theorem step_mk (M : Mod K mg G T fuel) {lv : Nat} (L : Lv P w K mg base G T fuel lv) {c x q : PySem.Str} {n : Nat} {fl : List PySem.Str} {Cc fa : Addr} {fd : FuncData} {dd : FDef} {st : Stmt} (DA : DefM K mg G T c x q n fl Cc fa fd dd st) :
    FnG P w K mg base (2 * (lv + 1)) fa fd dd.ps (spM K (evF T fuel (lv + 1)) c n) := by
  refine FnG.mono (j := 2 * lv + 1 + 1) (funG DA.F DA.S (fun vs H Q E h => ?_) (fun cdv A outer s H vs Q E qt hr h => ?_)) (by omega)
  · obtain ⟨p, ws, _, _, _, _, _, _, rfl, e, _⟩ := h
    rw [List.length_cons, e, DA.len]
  · obtain ⟨p, ws, Cc', dx, B, ds, ks, xs, rfl, hl, hn, hx, hB, bl, r, e, q⟩ := h
    have hCC : Cc' = Cc := by
      have := hn.symm.trans DA.ns
      simpa using this
    subst hCC
    have e' := evF_succ DA.t e
    unfold evD at e'
    rw [DA.cl] at e'
    replace e' := (if_some e').2
    rw [Option.map_eq_some_iff] at e'
    obtain ⟨⟨ks', xs'⟩, e1, e2⟩ := e'
    cases e2
    have xs0 := xs_of (outer := outer) (H := H) (E := E) (Pa := Pof (.ref p :: ws)) (B := B) M L DA.S qt hr
    have cap := evM_cap e1
    have sz := DA.sz
    refine ⟨_, q_make (p := p) (Cc := Cc') (dx := dx) xs0 M.ne DA.fl DA.ns rfl hB dd.body DA.ck, [], [], [], B, fun _ => False, _, ks', xs', H, simM bl hx r, rfl, rfl, ?_, e1, fun a o h _ => h, fun a h => h, fun a z => z.elim, fun σ' H' us h1 h2 h3 h4 h5 h6 => q H' us h1 h4 h3 h5 h6⟩
    rw [List.length_nil] at cap
    omega
theorem lv_all (M : Mod K mg G T fuel) : ∀ lv, Lv P w K mg base G T fuel lv
  | 0 => by
    refine ⟨fun f n kf h => ?_, fun f n h => ?_, fun g n c m h => ?_, fun c n h => ?_⟩
    · obtain ⟨fa, fd, dd, st, DA⟩ := M.fn f n kf h
      refine ⟨fa, fd, dd, st, DA, fun vs H Q E h => ?_, fun A outer s H args us vs Q E _ _ _ _ _ h => ?_⟩
      · obtain ⟨B, ss, ps, d, outs, _, _, _, _, e, _⟩ := h; cases e
      · obtain ⟨B, ss, ps, d, outs, _, _, _, _, e, _⟩ := h; cases e
    · obtain ⟨fa, fd, dd, st, DA, hn⟩ := M.nw f n h
      refine ⟨fa, fd, dd, st, DA, fun vs H Q E h => ?_, fun A outer s H args us vs Q E _ _ _ _ _ h => ?_⟩
      · obtain ⟨B, ds, xs, _, _, _, e, _⟩ := h; cases e
      · obtain ⟨B, ds, xs, _, _, _, e, _⟩ := h; cases e
    · obtain ⟨x, q, Cc, fa, fd, dd, st, DA⟩ := M.mt g n c m h
      refine ⟨x, q, Cc, fa, fd, dd, st, DA, fun vs H Q E h => ?_, fun A outer s H args us vs Q E _ _ _ _ _ h => ?_⟩
      · obtain ⟨B, ss, ps, d, outs, _, _, _, _, e, _⟩ := h; cases e
      · obtain ⟨B, ss, ps, d, outs, _, _, _, _, e, _⟩ := h; cases e
    · obtain ⟨x, q, fl, Cc, fa, fd, dd, st, DA⟩ := M.mks c n h
      refine ⟨x, q, fl, Cc, fa, fd, dd, st, DA, fun vs H Q E h => ?_, fun A outer s H args us vs Q E _ _ _ _ _ h => ?_⟩
      · obtain ⟨p, ws, Cc', dx, B, ds, ks, xs, _, _, _, _, _, _, _, e, _⟩ := h; cases e
      · obtain ⟨p, ws, Cc', dx, B, ds, ks, xs, _, _, _, _, _, _, _, e, _⟩ := h; cases e
  | lv + 1 => by
    have L := lv_all M lv
    refine ⟨fun f n kf h => ?_, fun f n h => ?_, fun g n c m h => ?_, fun c n h => ?_⟩
    · obtain ⟨fa, fd, dd, st, DA⟩ := M.fn f n kf h
      exact ⟨fa, fd, dd, st, DA, (step_fn M L DA.X).mono (by omega)⟩
    · obtain ⟨fa, fd, dd, st, DA, hn⟩ := M.nw f n h
      exact ⟨fa, fd, dd, st, DA, step_nw M L DA hn⟩
    · obtain ⟨x, q, Cc, fa, fd, dd, st, DA⟩ := M.mt g n c m h
      exact ⟨x, q, Cc, fa, fd, dd, st, DA, step_fn M L DA.X⟩
    · obtain ⟨x, q, fl, Cc, fa, fd, dd, st, DA⟩ := M.mks c n h
      exact ⟨x, q, fl, Cc, fa, fd, dd, st, DA, step_mk M L DA⟩
end Mn

namespace Mn
open PySem L2 RZ
variable {K : PySem.W.Frag} {P : Program} {w : World} {mg : PySem.Str → Option Value} {base : Heap} {G : GS} {T : List (PySem.Str × FDef)} {fuel lv : Nat}

theorem vals_get {vs : List V} {us : List Value} (h : Vals vs us) : ∀ {i : Nat} {v : V}, vs[i]? = some v → ∃ u, us[i]? = some u ∧ RelV v u := by
  induction h with
  | nil => intro i v e; simp at e
  | cons h t ih =>
    intro i v e
    cases i with
    | zero => simp at e; subst e; exact ⟨_, rfl, h⟩
    | succ i => rw [List.getElem?_cons_succ] at e ⊢; exact ih e
theorem vals_app {vs ws : List V} {us zs : List Value} (h : Vals vs us) (g : Vals ws zs) : Vals (vs ++ ws) (us ++ zs) := by
  induction h with
  | nil => exact g
  | cons h t ih => exact .cons h ih
theorem vals_len {vs : List V} {us : List Value} (h : Vals vs us) : us.length = vs.length := by
  induction h with
  | nil => rfl
  | cons h t ih => simp [ih]
theorem vals_none {vs : List V} {us : List Value} (h : Vals vs us) {i : Nat} (e : vs[i]? = none) : us[i]? = none := by
  rw [List.getElem?_eq_none_iff] at e ⊢
  rw [vals_len h]; exact e
theorem vals_perm {vs : List V} {us : List Value} (h : Vals vs us) : ∀ pm : List Nat, (∃ ws zs, permA vs pm = some ws ∧ permA us pm = some zs ∧ Vals ws zs) ∨ (permA vs pm = none ∧ permA us pm = none)
  | [] => .inl ⟨[], [], rfl, rfl, .nil⟩
  | i :: r => by
    unfold permA
    cases e : vs[i]? with
    | none => rw [vals_none h e]; exact .inr ⟨rfl, rfl⟩
    | some v =>
      obtain ⟨u, e2, rv⟩ := vals_get h e
      rw [e2]
      rcases vals_perm h r with ⟨ws, zs, h1, h2, h3⟩ | ⟨h1, h2⟩
      · rw [h1, h2]; exact .inl ⟨v :: ws, u :: zs, rfl, rfl, .cons rv h3⟩
      · rw [h1, h2]; exact .inr ⟨rfl, rfl⟩
/-- a call with keywords, by the def's own binding -/
theorem kb_of {x qual : PySem.Str} {st : Stmt} {f : Addr} {fd : FuncData} {ps ks : List PySem.Str} {n : Nat} {pm : List Nat} (F : Fun K x qual st f fd)
    (h : ∀ (kV doc pmv : Value) (an : Option Addr) (cdv ct : Value) (us ws : List Value), us.length = n → ws.length = ks.length → bindArgs (PySem.W.fnOf x qual (defArgs st) (defBody st) (defScope st) .none kV doc pmv an cdv ct) ⟨us, ks.zip ws⟩ = pure (ps.zip ((permA (us ++ ws) pm).getD [])))
    (hps : ps ≠ []) : KBinds K fd ps ks (gP n ks.length pm) (gP n ks.length pm) where
  to := fun s us ws hk hl => by
    unfold gP at hl ⊢
    split at hl
    case isFalse => exact absurd (List.length_eq_zero_iff.1 hl.symm) hps
    rename_i hq
    obtain ⟨oc, od, kV, doc, pmv, an, cdv, ct, osl, rfl, lk, hcd⟩ := F.ex
    rw [if_pos hq]
    exact .of_eq (h kV doc pmv an cdv ct us ws hq.1 hq.2)
  rel := fun {vs us zs ws} r1 r2 => by
    unfold gP
    rw [vals_len r1, vals_len r2]
    split
    · rcases vals_perm (vals_app r1 r2) pm with ⟨a, b, h1, h2, h3⟩ | ⟨h1, h2⟩
      · rw [h1, h2]; exact h3
      · rw [h1, h2]; exact .nil
    · exact .nil
/-- a constant tuple of whole numbers -/
theorem co_tup {x : PySem.Str} {ds : List D} {ns : List Int} {a : Addr} {n0 : Nat} (hT : T.lookup x = some ⟨[], [], .seq (.ret (.con (.tup ds))) .nil, none⟩) : True := trivial

theorem fz_of {H : Hp} {a : Addr} {xs : List V} (ho : Only H) (h : SqL K H a xs) : FzL K H a xs := by
  rcases h with (h | h) | h
  · rcases ho a with z | ⟨o, ys, z⟩ <;> (rw [h] at z; cases z)
  · exact .inl h
  · exact .inr h
/-- the law's promise, from its reading -/
theorem sp_law {F : FT} {ns : List Int} (h : F "law" [.val (.scr ns)] = some (.bl true, [])) {H : Hp} {a : Addr} (ho : Only H) (hs : SqL K H a (ns.map V.int)) {E : XK} :
    spF K F "law" 1 [V.ref a] H (fun v _ => v = V.bl true) E := by
  refine ⟨fun _ => False, [.val (.scr ns)], [], .bl true, [], fun _ z => z.elim, ⟨.ref a, [], rfl, ⟨a, rfl, fz_of ho hs⟩, rfl, rfl⟩, List.nodup_nil, rfl, h, fun v H' r _ _ _ => r⟩
end Mn
namespace Mn
open PySem L2 RZ
variable {K : PySem.W.Frag} {P : Program} {w : World} {mg : PySem.Str → Option Value} {base : Heap} {G : GS} {T : List (PySem.Str × FDef)} {fuel lv : Nat} {h : Heap}
structure FAt (K : PySem.W.Frag) (f : PySem.Str) (st : Stmt) (fa : Addr) : Prop where
  ns : PySem.W.nsIn K mainGlobals f = some (some (.ref fa))
  fn : ∃ fd, Fun K f f st fa fd
theorem FAt.mk' (X : K.In h) {f : PySem.Str} {st : Stmt} {fa : Addr} {oc : Value} {od an : Option Addr} {osl : Array (Option Value)} {kV doc pm cdv ct : Value}
    (a : PySem.W.nsIn K mainGlobals f = some (some (.ref fa)))
    (l : K.lookup fa = some ⟨oc, od, .func (PySem.W.fnOf f f (defArgs st) (defBody st) (defScope st) .none kV doc pm an cdv ct), osl⟩)
    (c : PySem.W.codeIn K cdv f = true) (k : PySem.W.keepIn K (.ref fa) = true) : ∃ fa, FAt K f st fa := ⟨fa, a, _, fun_mk l c k⟩
/-- a constant of the module: a tuple of two whole numbers -/
structure CAt2 (K : PySem.W.Frag) (x : PySem.Str) (i j : Int) : Prop where
  ex : ∃ a o its n, PySem.W.nsIn K mainGlobals x = some (some (.ref a)) ∧ K.lookup a = some o ∧ o.cls = Value.type "tuple" ∧ o.dict = none ∧ o.data = Data.seq its n ∧ its.size ≤ sizeLine ∧ Vals [V.int i, V.int j] its.toList
theorem CAt2.mk' (X : K.In h) {x : PySem.Str} {i j : Int} {a : Addr} {t u : Tok} {n : Nat} {sl : Array (Option Value)}
    (e : PySem.W.nsIn K mainGlobals x = some (some (.ref a))) (l : K.lookup a = some ⟨.type "tuple", none, .seq #[.int i t, .int j u] n, sl⟩) : CAt2 K x i j :=
  ⟨a, _, _, _, e, l, rfl, rfl, rfl, by show 2 ≤ sizeLine; decide, .cons ⟨t, rfl⟩ (.cons ⟨u, rfl⟩ .nil)⟩
def AllP {α : Type} (Pr : α → Prop) : List α → Prop
  | [] => True
  | a :: r => Pr a ∧ AllP Pr r
theorem AllP.mem {α : Type} {Pr : α → Prop} : ∀ {l : List α}, AllP Pr l → ∀ a ∈ l, Pr a
  | [], _, a, m => nomatch m
  | b :: r, h, a, m => by
    rcases List.mem_cons.1 m with rfl | m
    · exact h.1
    · exact AllP.mem h.2 a m
theorem mem_look {β : Type} {f : PySem.Str} {v : β} : ∀ {l : List (PySem.Str × β)}, l.lookup f = some v → (f, v) ∈ l
  | [], h => by simp at h
  | (g, u) :: r, h => by
    rw [List.lookup_cons] at h
    split at h
    · rename_i e
      cases h
      rw [eq_of_beq e]
      exact List.mem_cons_self
    · exact List.mem_cons_of_mem _ (mem_look h)
theorem da_of (X : K.In h) (Gm : h.Ns mainGlobals mg) {f : PySem.Str} {n : Nat} {kf : List (Nat × List PySem.Str × List Nat)} {dd : FDef} {st : Stmt} (e : ∃ fa, FAt K f st fa) (ht : T.lookup f = some dd) (hcl : dd.cl = none) (S : FnScope dd.ns dd.ps (defScope st)) (ck : ckSs G dd.ns (defScope st) dd.body (defBody st) = true) (hl : dd.ps.length = n)
    (hb : ∀ (kV doc pm : Value) (an : Option Addr) (cdv ct : Value) (us : List Value), us.length = dd.ps.length → bindArgs (PySem.W.fnOf f f (defArgs st) (defBody st) (defScope st) .none kV doc pm an cdv ct) ⟨us, []⟩ = pure (dd.ps.zip us))
    (hk : ∀ t ∈ kf, dd.ps ≠ [] ∧ ∀ (kV doc pmv : Value) (an : Option Addr) (cdv ct : Value) (us ws : List Value), us.length = t.1 → ws.length = t.2.1.length → bindArgs (PySem.W.fnOf f f (defArgs st) (defBody st) (defScope st) .none kV doc pmv an cdv ct) ⟨us, t.2.1.zip ws⟩ = pure (dd.ps.zip ((permA (us ++ ws) t.2.2).getD []))) :
    ∃ fa fd dd st, DefAt K mg G T f n kf fa fd dd st := by
  obtain ⟨fa, a, fd, F⟩ := e
  exact ⟨fa, fd, dd, st, ht, hcl, PySem.W.mg_of X Gm a, F, S, ck, hl, F.binds hb, fun t m => kb_of F (hk t m).2 (hk t m).1⟩
theorem co_of (X : K.In h) (Gm : h.Ns mainGlobals mg) {x : PySem.Str} {i j : Int} (c : CAt2 K x i j) (ht : T.lookup x = some ⟨[], [], .seq (.ret (.tup (.cons (.con (.int i)) (.cons (.con (.int j)) .nil)))) .nil, none⟩) : ∀ n d o, evF T fuel n x [] = some (d, o) → ∃ v u, mg x = some u ∧ RelV v u ∧ ∀ H B, Rep K H B d v := by
  intro n d o e
  cases n with
  | zero => cases e
  | succ n =>
    have e' := evF_succ ht e
    have e2 : some (D.tup [.int i, .int j], ([] : List (List D))) = some (d, o) := by
      rw [← e']
      rfl
    cases e2
    obtain ⟨a, ob, its, m, e1, e2, e3, e4, e5, e6, e7⟩ := c.ex
    exact ⟨.ref a, .ref a, PySem.W.mg_of X Gm e1, rfl, fun H B => ⟨a, _, rfl, .inr ⟨ob, its, m, e2, e3, e5, e6, e7⟩, ⟨_, _, rfl, rfl, _, _, rfl, rfl, rfl⟩⟩⟩
theorem da_new {f : PySem.Str} {n : Nat} {kf : List (Nat × List PySem.Str × List Nat)} {d0 : FDef} (e : ∃ fa fd dd st, DefAt K mg G T f n kf fa fd dd st) (ht : T.lookup f = some d0) (hn : lastNew d0.body = true) : ∃ fa fd dd st, DefAt K mg G T f n [] fa fd dd st ∧ lastNew dd.body = true := by
  obtain ⟨fa, fd, dd, st, DA⟩ := e
  have := DA.t.symm.trans ht
  obtain rfl := Option.some.inj this
  exact ⟨fa, fd, _, st, ⟨DA.t, DA.cl, DA.mg, DA.F, DA.S, DA.ck, DA.len, DA.b, fun _ z => nomatch z⟩, hn⟩
theorem law_fin (M : Mod K mg G T fuel) (X : K.In h) (Gm : h.Ns mainGlobals mg) {dd : FDef} {st : Stmt} (e : ∃ fa, FAt K "law" st fa) (ht : T.lookup ("law" : PySem.Str) = some dd) (hcl : dd.cl = none) (S : FnScope dd.ns dd.ps (defScope st)) (ck : ckSs G dd.ns (defScope st) dd.body (defBody st) = true) (hps : dd.ps = [("script" : PySem.Str)])
    (hb : ∀ (kV doc pm : Value) (an : Option Addr) (cdv ct : Value) (us : List Value), us.length = dd.ps.length → bindArgs (PySem.W.fnOf "law" "law" (defArgs st) (defBody st) (defScope st) .none kV doc pm an cdv ct) ⟨us, []⟩ = pure (dd.ps.zip us)) {fa : Addr} (hfa : mg "law" = some (.ref fa)) :
    ∃ fd : FuncData, (∀ (s : Shared) (u : Value), BindsTo s fd ⟨[u], []⟩ [("script", u)]) ∧ ∀ base : Heap, K.In base → base.Ns mainGlobals mg → FnG P w K mg base (2 * (lv + 1) + 1) fa fd ["script"] (spF K (evF T fuel (lv + 1)) "law" 1) := by
  obtain ⟨fa', a, fd, F⟩ := e
  have hm := PySem.W.mg_of X Gm a
  rw [hfa] at hm
  cases hm
  refine ⟨fd, fun s u => ?_, fun base _ _ => ?_⟩
  · obtain ⟨oc, od, kV, doc, pmv, an, cdv, ct, osl, rfl, lk, hcd⟩ := F.ex
    have := hb kV doc pmv an cdv ct [u] (by rw [hps]; rfl)
    rw [hps] at this
    exact .of_eq this
  · have DA : DefAt K mg G T "law" 1 [] fa fd dd st := ⟨ht, hcl, hfa, F, S, ck, by rw [hps]; rfl, F.binds hb, fun _ z => nomatch z⟩
    have := (step_fn (P := P) (w := w) (base := base) M (lv_all M lv) DA.X).mono (k := 2 * (lv + 1) + 1) (by omega)
    rw [hps] at this
    exact this
/-- a def of a class's body -/
structure FAtC (K : PySem.W.Frag) (x q : PySem.Str) (st : Stmt) (fa : Addr) : Prop where
  fn : ∃ fd, Fun K x q st fa fd
theorem FAtC.mk' {x q : PySem.Str} {st : Stmt} {fa : Addr} {oc : Value} {od an : Option Addr} {osl : Array (Option Value)} {kV doc pm cdv ct : Value}
    (l : K.lookup fa = some ⟨oc, od, .func (PySem.W.fnOf x q (defArgs st) (defBody st) (defScope st) .none kV doc pm an cdv ct), osl⟩)
    (c : PySem.W.codeIn K cdv q = true) (k : PySem.W.keepIn K (.ref fa) = true) : FAtC K x q st fa := ⟨_, fun_mk l c k⟩
theorem mth_of {g x q : PySem.Str} {n : Nat} {c : PySem.Str} {m : PySem.Str × List PySem.Str} {dd : FDef} {st : Stmt} (e : ∃ Cc fa, PySem.W.nsIn K mainGlobals c = some (some (.ref Cc)) ∧ Cls K Cc ∧ Meth K Cc m.1 fa ∧ FAtC K x q st fa) (ht : T.lookup g = some dd) (hcl : dd.cl = none) (S : FnScope dd.ns dd.ps (defScope st)) (ck : ckSs G dd.ns (defScope st) dd.body (defBody st) = true) (hl : dd.ps.length = n)
    (hb : ∀ (kV doc pm : Value) (an : Option Addr) (cdv ct : Value) (us : List Value), us.length = dd.ps.length → bindArgs (PySem.W.fnOf x q (defArgs st) (defBody st) (defScope st) .none kV doc pm an cdv ct) ⟨us, []⟩ = pure (dd.ps.zip us))
    (hk : 2 ≤ n → m.2.length = n - 1 ∧ ∀ (kV doc pmv : Value) (an : Option Addr) (cdv ct : Value) (us ws : List Value), us.length = 1 → ws.length = m.2.length → bindArgs (PySem.W.fnOf x q (defArgs st) (defBody st) (defScope st) .none kV doc pmv an cdv ct) ⟨us, m.2.zip ws⟩ = pure (dd.ps.zip ((permA (us ++ ws) (List.range n)).getD []))) :
    ∃ x q Cc fa fd dd st, DefO K G T g x q n c m Cc fa fd dd st := by
  obtain ⟨Cc, fa, h1, h2, h3, fd, F⟩ := e
  refine ⟨x, q, Cc, fa, fd, dd, st, ⟨ht, hcl, F, S, ck, hl⟩, h1, h2, h3, F.binds hb, fun h2 => ?_⟩
  have := kb_of (n := 1) (pm := List.range n) F (hk h2).2 (by intro z; rw [z] at hl; simp at hl; omega)
  rw [(hk h2).1] at this
  exact this
theorem mks_of (X : K.In h) (Gm : h.Ns mainGlobals mg) {c x q : PySem.Str} {n : Nat} {fl : List PySem.Str} {dd : FDef} {st : Stmt} (e : ∃ Cc fa, PySem.W.nsIn K mainGlobals c = some (some (.ref Cc)) ∧ Mk K Cc fa ∧ FAtC K x q st fa) (ht : T.lookup c = some dd) (hcl : dd.cl = some c) (S : FnScope dd.ns dd.ps (defScope st)) (ck : ckM c fl G dd.ns (defScope st) dd.body (defBody st) = true) (hl : dd.ps.length = n + 1) (hz : mlen dd.body < 900)
    (hf : ∀ f ∈ fl, (c, f) ∈ G.ca)
    (hb : ∀ (kV doc pm : Value) (an : Option Addr) (cdv ct : Value) (us : List Value), us.length = dd.ps.length → bindArgs (PySem.W.fnOf x q (defArgs st) (defBody st) (defScope st) .none kV doc pm an cdv ct) ⟨us, []⟩ = pure (dd.ps.zip us)) :
    ∃ x q fl Cc fa fd dd st, DefM K mg G T c x q n fl Cc fa fd dd st := by
  obtain ⟨Cc, fa, h1, h2, fd, F⟩ := e
  exact ⟨x, q, fl, Cc, fa, fd, dd, st, ht, hcl, F, S, ck, hl, hz, hf, h1, PySem.W.mg_of X Gm h1, h2, F.binds hb⟩
theorem MAt.mk' (_ : K.In h) {c m x q : PySem.Str} {st : Stmt} {Cc fa : Addr} {oc : Value} {od an : Option Addr} {osl : Array (Option Value)} {kV doc pm cdv ct : Value}
    (a : PySem.W.nsIn K mainGlobals c = some (some (.ref Cc))) (pg : PySem.W.plainGet K Cc PySem.Str.empty = true) (hd : PySem.W.hasDictIn K Cc = true) (po : PySem.W.plainOver K Cc = true) (sa : PySem.W.findIn K (.ref Cc) "__setattr__" = some (some (.builtin "object.__setattr__")))
    (f1 : PySem.W.findIn K (.ref Cc) m = some (some (.ref fa))) (i1 : PySem.W.isFn K (.ref fa) = true)
    (l : K.lookup fa = some ⟨oc, od, .func (PySem.W.fnOf x q (defArgs st) (defBody st) (defScope st) .none kV doc pm an cdv ct), osl⟩)
    (cd : PySem.W.codeIn K cdv q = true) (k : PySem.W.keepIn K (.ref fa) = true) : ∃ Cc fa, PySem.W.nsIn K mainGlobals c = some (some (.ref Cc)) ∧ Cls K Cc ∧ Meth K Cc m fa ∧ FAtC K x q st fa :=
  ⟨Cc, fa, a, ⟨pg, hd, po, sa⟩, ⟨f1, i1, k⟩, FAtC.mk' l cd k⟩
theorem IAt.mk' (_ : K.In h) {c x q : PySem.Str} {st : Stmt} {Cc fa : Addr} {oc : Value} {od an : Option Addr} {osl : Array (Option Value)} {kV doc pm cdv ct : Value}
    (a : PySem.W.nsIn K mainGlobals c = some (some (.ref Cc))) (mk : PySem.W.makesIn K Cc = true)
    (f1 : PySem.W.findIn K (.ref Cc) "__init__" = some (some (.ref fa))) (i1 : PySem.W.isFn K (.ref fa) = true) (kc : PySem.W.keepIn K (.ref Cc) = true)
    (l : K.lookup fa = some ⟨oc, od, .func (PySem.W.fnOf x q (defArgs st) (defBody st) (defScope st) .none kV doc pm an cdv ct), osl⟩)
    (cd : PySem.W.codeIn K cdv q = true) (k : PySem.W.keepIn K (.ref fa) = true) : ∃ Cc fa, PySem.W.nsIn K mainGlobals c = some (some (.ref Cc)) ∧ Mk K Cc fa ∧ FAtC K x q st fa :=
  ⟨Cc, fa, a, ⟨mk, f1, i1, kc⟩, FAtC.mk' l cd k⟩
theorem AAt.mk' (_ : K.In h) {c f : PySem.Str} {Cc : Addr}
    (a : PySem.W.nsIn K mainGlobals c = some (some (.ref Cc))) (pg : PySem.W.plainGet K Cc PySem.Str.empty = true) (hd : PySem.W.hasDictIn K Cc = true) (po : PySem.W.plainOver K Cc = true) (sa : PySem.W.findIn K (.ref Cc) "__setattr__" = some (some (.builtin "object.__setattr__")))
    (n : PySem.W.findIn K (.ref Cc) f = some none) : ∃ Cc, PySem.W.nsIn K mainGlobals c = some (some (.ref Cc)) ∧ Cls K Cc ∧ NoAttr K Cc f :=
  ⟨Cc, a, ⟨pg, hd, po, sa⟩, n⟩
end Mn

namespace L09
open PySem L2 Mn
def d_is_plain_integer : FDef := ⟨["value"], ["value"], (.seq (.ret (.vand (.blt (.isi "int") (.cons (.var 0) .nil)) (.vnot (.blt (.isi "bool") (.cons (.var 0) .nil))))) .nil), none⟩
def d_is_fraction : FDef := ⟨["value"], ["value", "top", "bottom"], (.seq (.iff (.tor (.tnot (.tval (.blt (.isi "tuple") (.cons (.var 0) .nil)))) (.tval (.cmp .ne (.blt .len (.cons (.var 0) .nil)) (.con (.int 2))))) (.seq (.ret (.con (.bl false))) .nil) .nil) (.seq (.unp [1, 2] (.var 0)) (.seq (.iff (.tor (.tnot (.tval (.call "is_plain_integer" [0] (.cons (.tval (.var 1)) .nil)))) (.tnot (.tval (.call "is_plain_integer" [0] (.cons (.tval (.var 2)) .nil))))) (.seq (.ret (.con (.bl false))) .nil) .nil) (.seq (.ret (.vand (.cmp .ge (.var 2) (.con (.int 1))) (.cmp .eq (.blt .gcd (.cons (.var 1) (.cons (.var 2) .nil))) (.con (.int 1))))) .nil)))), none⟩
def d_is_above_zero : FDef := ⟨["value"], ["value"], (.seq (.ret (.vand (.call "is_fraction" [0] (.cons (.tval (.var 0)) .nil)) (.cmp .gt (.ix (.var 0) (.con (.int 0))) (.con (.int 0))))) .nil), none⟩
def d_is_time : FDef := ⟨["value"], ["value"], (.seq (.ret (.vand (.call "is_fraction" [0] (.cons (.tval (.var 0)) .nil)) (.cmp .ge (.ix (.var 0) (.con (.int 0))) (.con (.int 0))))) .nil), none⟩
def d_in_least_terms : FDef := ⟨["top", "bottom"], ["top", "bottom", "shared"], (.seq (.asg 2 (.blt .gcd (.cons (.var 0) (.cons (.var 1) .nil)))) (.seq (.ret (.tup (.cons (.bin .div (.var 0) (.var 2)) (.cons (.bin .div (.var 1) (.var 2)) .nil)))) .nil)), none⟩
def d_added : FDef := ⟨["one", "other"], ["one", "other"], (.seq (.ret (.call "in_least_terms" [0, 1] (.cons (.tval (.bin .add (.bin .mul (.ix (.var 0) (.con (.int 0))) (.ix (.var 1) (.con (.int 1)))) (.bin .mul (.ix (.var 1) (.con (.int 0))) (.ix (.var 0) (.con (.int 1)))))) (.cons (.tval (.bin .mul (.ix (.var 0) (.con (.int 1))) (.ix (.var 1) (.con (.int 1))))) .nil)))) .nil), none⟩
def d_subtracted : FDef := ⟨["one", "other"], ["one", "other"], (.seq (.ret (.call "in_least_terms" [0, 1] (.cons (.tval (.bin .sub (.bin .mul (.ix (.var 0) (.con (.int 0))) (.ix (.var 1) (.con (.int 1)))) (.bin .mul (.ix (.var 1) (.con (.int 0))) (.ix (.var 0) (.con (.int 1)))))) (.cons (.tval (.bin .mul (.ix (.var 0) (.con (.int 1))) (.ix (.var 1) (.con (.int 1))))) .nil)))) .nil), none⟩
def d_multiplied : FDef := ⟨["one", "other"], ["one", "other"], (.seq (.ret (.call "in_least_terms" [0, 1] (.cons (.tval (.bin .mul (.ix (.var 0) (.con (.int 0))) (.ix (.var 1) (.con (.int 0))))) (.cons (.tval (.bin .mul (.ix (.var 0) (.con (.int 1))) (.ix (.var 1) (.con (.int 1))))) .nil)))) .nil), none⟩
def d_divided : FDef := ⟨["one", "other"], ["one", "other"], (.seq (.ret (.call "in_least_terms" [0, 1] (.cons (.tval (.bin .mul (.ix (.var 0) (.con (.int 0))) (.ix (.var 1) (.con (.int 1))))) (.cons (.tval (.bin .mul (.ix (.var 0) (.con (.int 1))) (.ix (.var 1) (.con (.int 0))))) .nil)))) .nil), none⟩
def d_is_less : FDef := ⟨["one", "other"], ["one", "other"], (.seq (.ret (.cmp .lt (.bin .mul (.ix (.var 0) (.con (.int 0))) (.ix (.var 1) (.con (.int 1)))) (.bin .mul (.ix (.var 1) (.con (.int 0))) (.ix (.var 0) (.con (.int 1)))))) .nil), none⟩
def d_inverse : FDef := ⟨["fraction"], ["fraction"], (.seq (.ret (.tup (.cons (.ix (.var 0) (.con (.int 1))) (.cons (.ix (.var 0) (.con (.int 0))) .nil)))) .nil), none⟩
def d_is_same : FDef := ⟨["value", "told"], ["value", "told", "part", "other"], (.seq (.iff (.tval (.blt (.isi "tuple") (.cons (.var 1) .nil))) (.seq (.iff (.tor (.tnot (.tval (.blt (.isi "tuple") (.cons (.var 0) .nil)))) (.tval (.cmp .ne (.blt .len (.cons (.var 0) .nil)) (.blt .len (.cons (.var 1) .nil))))) (.seq (.ret (.con (.bl false))) .nil) .nil) (.seq (.ret (.blt .all (.cons (.comp (.zip) (.cons (.var 0) (.cons (.var 1) .nil)) (.many [2, 3]) .tyes (.call "is_same" [0, 1] (.cons (.tval (.var 2)) (.cons (.tval (.var 3)) .nil))) [2, 3]) .nil))) .nil)) .nil) (.seq (.ret (.vand (.cmp .eq (.blt (.isi "bool") (.cons (.var 0) .nil)) (.blt (.isi "bool") (.cons (.var 1) .nil))) (.cmp .eq (.var 0) (.var 1)))) .nil)), none⟩
def d_is_event : FDef := ⟨["value"], ["value"], (.seq (.iff (.tor (.tnot (.tval (.blt (.isi "tuple") (.cons (.var 0) .nil)))) (.tval (.cmp .ne (.blt .len (.cons (.var 0) .nil)) (.con (.int 2))))) (.seq (.ret (.con (.bl false))) .nil) .nil) (.seq (.ret (.vand (.call "is_fraction" [0] (.cons (.tval (.ix (.var 0) (.con (.int 0)))) .nil)) (.call "is_fraction" [0] (.cons (.tval (.ix (.var 0) (.con (.int 1)))) .nil)))) .nil)), none⟩
def d_check_event : FDef := ⟨["value"], ["value"], (.seq (.iff (.tnot (.tval (.call "is_event" [0] (.cons (.tval (.var 0)) .nil)))) (.seq .never .nil) .nil) .nil), none⟩
def d_growth : FDef := ⟨["one", "other"], ["one", "other"], (.seq (.ret (.tup (.cons (.call "subtracted" [0, 1] (.cons (.tval (.ix (.var 1) (.con (.int 0)))) (.cons (.tval (.ix (.var 0) (.con (.int 0)))) .nil))) (.cons (.call "subtracted" [0, 1] (.cons (.tval (.ix (.var 1) (.con (.int 1)))) (.cons (.tval (.ix (.var 0) (.con (.int 1)))) .nil))) .nil)))) .nil), none⟩
def d_flown : FDef := ⟨["event", "pace", "time"], ["event", "pace", "time"], (.seq (.ret (.tup (.cons (.call "added" [0, 1] (.cons (.tval (.ix (.var 0) (.con (.int 0)))) (.cons (.tval (.call "multiplied" [0, 1] (.cons (.tval (.var 1)) (.cons (.tval (.var 2)) .nil)))) .nil))) (.cons (.call "added" [0, 1] (.cons (.tval (.ix (.var 0) (.con (.int 1)))) (.cons (.tval (.call "divided" [0, 1] (.cons (.tval (.var 2)) (.cons (.tval (.var 1)) .nil)))) .nil))) .nil)))) .nil), none⟩
def d_check_most : FDef := ⟨["value"], ["value"], (.seq (.iff (.tor (.tnot (.tval (.call "is_fraction" [0] (.cons (.tval (.var 0)) .nil)))) (.tval (.call "is_less" [0, 1] (.cons (.tval (.var 0)) (.cons (.tval (.glo "ONE")) .nil))))) (.seq .never .nil) .nil) .nil), none⟩
def d_check_own_time : FDef := ⟨["value"], ["value"], (.seq (.iff (.tnot (.tval (.call "is_time" [0] (.cons (.tval (.var 0)) .nil)))) (.seq .never .nil) .nil) .nil), none⟩
def d_reach : FDef := ⟨["one", "other", "most"], ["one", "other", "most", "square", "u_more", "v_more"], (.seq (.exp (.call "check_event" [0] (.cons (.tval (.var 0)) .nil))) (.seq (.exp (.call "check_event" [0] (.cons (.tval (.var 1)) .nil))) (.seq (.exp (.call "check_most" [0] (.cons (.tval (.var 2)) .nil))) (.seq (.unp [4, 5] (.call "growth" [0, 1] (.cons (.tval (.var 0)) (.cons (.tval (.var 1)) .nil)))) (.seq (.asg 3 (.call "multiplied" [0, 1] (.cons (.tval (.var 2)) (.cons (.tval (.var 2)) .nil)))) (.seq (.iff (.tor (.tval (.cmp .lt (.ix (.var 4) (.con (.int 0))) (.con (.int 0)))) (.tval (.cmp .lt (.ix (.var 5) (.con (.int 0))) (.con (.int 0))))) (.seq (.ret (.tup (.cons (.con (.str "behind")) .nil))) .nil) .nil) (.seq (.iff (.tval (.call "is_less" [0, 1] (.cons (.tval (.call "multiplied" [0, 1] (.cons (.tval (.var 3)) (.cons (.tval (.var 5)) .nil)))) (.cons (.tval (.var 4)) .nil)))) (.seq (.ret (.tup (.cons (.con (.str "beyond")) (.cons (.con (.str "u")) .nil)))) .nil) .nil) (.seq (.iff (.tval (.call "is_less" [0, 1] (.cons (.tval (.call "multiplied" [0, 1] (.cons (.tval (.var 3)) (.cons (.tval (.var 4)) .nil)))) (.cons (.tval (.var 5)) .nil)))) (.seq (.ret (.tup (.cons (.con (.str "beyond")) (.cons (.con (.str "v")) .nil)))) .nil) .nil) (.seq (.ret (.tup (.cons (.con (.str "plan")) (.cons (.call "to_and_fro" [0, 1, 2] (.cons (.tval (.var 4)) (.cons (.tval (.var 5)) (.cons (.tval (.var 2)) .nil)))) .nil)))) .nil))))))))), none⟩
def d_to_and_fro : FDef := ⟨["u_more", "v_more", "most"], ["u_more", "v_more", "most", "least", "quick", "slow", "parts"], (.seq (.asg 3 (.call "inverse" [0] (.cons (.tval (.var 2)) .nil))) (.seq (.par 4 5 false false (.var 0) (.glo "ZERO")) (.seq (.iff (.tval (.cmp .ne (.var 2) (.glo "ONE"))) (.seq (.asg 6 (.call "subtracted" [0, 1] (.cons (.tval (.call "multiplied" [0, 1] (.cons (.tval (.var 2)) (.cons (.tval (.var 2)) .nil)))) (.cons (.tval (.call "multiplied" [0, 1] (.cons (.tval (.var 3)) (.cons (.tval (.var 3)) .nil)))) .nil)))) (.seq (.asg 4 (.call "divided" [0, 1] (.cons (.tval (.call "subtracted" [0, 1] (.cons (.tval (.call "multiplied" [0, 1] (.cons (.tval (.var 2)) (.cons (.tval (.var 0)) .nil)))) (.cons (.tval (.call "multiplied" [0, 1] (.cons (.tval (.var 3)) (.cons (.tval (.var 1)) .nil)))) .nil)))) (.cons (.tval (.var 6)) .nil)))) (.seq (.asg 5 (.call "divided" [0, 1] (.cons (.tval (.call "subtracted" [0, 1] (.cons (.tval (.call "multiplied" [0, 1] (.cons (.tval (.var 2)) (.cons (.tval (.var 1)) .nil)))) (.cons (.tval (.call "multiplied" [0, 1] (.cons (.tval (.var 3)) (.cons (.tval (.var 0)) .nil)))) .nil)))) (.cons (.tval (.var 6)) .nil)))) .nil))) .nil) (.seq (.ret (.call "flown_pieces" [0] (.cons (.tval (.tup (.cons (.tup (.cons (.var 2) (.cons (.var 4) .nil))) (.cons (.tup (.cons (.var 3) (.cons (.var 5) .nil))) .nil)))) .nil))) .nil)))), none⟩
def d_flown_pieces : FDef := ⟨["pieces"], ["pieces", "pace", "time"], (.seq (.ret (.blt .tuple (.cons (.comp (.seq) (.cons (.var 0) .nil) (.many [1, 2]) (.tval (.cmp .ne (.var 2) (.glo "ZERO"))) (.tup (.cons (.var 1) (.cons (.var 2) .nil))) [1, 2]) .nil))) .nil), none⟩
def d_is_plan : FDef := ⟨["value", "most"], ["value", "most", "pieces", "piece"], (.seq (.iff (.tor (.tnot (.tval (.blt (.isi "tuple") (.cons (.var 0) .nil)))) (.tor (.tval (.cmp .ne (.blt .len (.cons (.var 0) .nil)) (.con (.int 2)))) (.tval (.cmp .ne (.ix (.var 0) (.con (.int 0))) (.con (.str "plan")))))) (.seq (.ret (.con (.bl false))) .nil) .nil) (.seq (.asg 2 (.ix (.var 0) (.con (.int 1)))) (.seq (.iff (.tor (.tnot (.tval (.blt (.isi "tuple") (.cons (.var 2) .nil)))) (.tval (.cmp .gt (.blt .len (.cons (.var 2) .nil)) (.con (.int 2))))) (.seq (.ret (.con (.bl false))) .nil) .nil) (.seq (.ret (.blt .all (.cons (.comp (.seq) (.cons (.var 2) .nil) (.one 3) .tyes (.call "is_piece" [0, 1] (.cons (.tval (.var 3)) (.cons (.tval (.var 1)) .nil))) [3]) .nil))) .nil)))), none⟩
def d_is_piece : FDef := ⟨["value", "most"], ["value", "most"], (.seq (.iff (.tor (.tnot (.tval (.blt (.isi "tuple") (.cons (.var 0) .nil)))) (.tval (.cmp .ne (.blt .len (.cons (.var 0) .nil)) (.con (.int 2))))) (.seq (.ret (.con (.bl false))) .nil) .nil) (.seq (.ret (.vand (.call "is_above_zero" [0] (.cons (.tval (.ix (.var 0) (.con (.int 0)))) .nil)) (.vand (.call "is_within" [0, 1] (.cons (.tval (.ix (.var 0) (.con (.int 0)))) (.cons (.tval (.var 1)) .nil))) (.call "is_above_zero" [0] (.cons (.tval (.ix (.var 0) (.con (.int 1)))) .nil))))) .nil)), none⟩
def d_is_within : FDef := ⟨["pace", "most"], ["pace", "most"], (.seq (.ret (.vand (.vnot (.call "is_less" [0, 1] (.cons (.tval (.var 0)) (.cons (.tval (.call "inverse" [0] (.cons (.tval (.var 1)) .nil))) .nil)))) (.vnot (.call "is_less" [0, 1] (.cons (.tval (.var 1)) (.cons (.tval (.var 0)) .nil)))))) .nil), none⟩
def d_leads : FDef := ⟨["one", "other", "pieces"], ["one", "other", "pieces", "event", "pace", "time"], (.seq (.asg 3 (.var 0)) (.seq (.for_ (.seq) (.cons (.var 2) .nil) (.many [4, 5]) (.seq (.asg 3 (.call "flown" [0, 1, 2] (.cons (.tval (.var 3)) (.cons (.tval (.var 4)) (.cons (.tval (.var 5)) .nil))))) .nil)) (.seq (.ret (.cmp .eq (.var 3) (.var 1))) .nil))), none⟩
def d_check_plan : FDef := ⟨["one", "other", "most"], ["one", "other", "most", "told"], (.seq (.asg 3 (.call "reach" [0, 1, 2] (.cons (.tval (.var 0)) (.cons (.tval (.var 1)) (.cons (.tval (.var 2)) .nil))))) (.seq (.iff (.tval (.cmp .ne (.ix (.var 3) (.con (.int 0))) (.con (.str "plan")))) (.seq .never .nil) .nil) .nil)), none⟩
def d_least_own : FDef := ⟨["one", "other", "most"], ["one", "other", "most", "u_more", "v_more"], (.seq (.exp (.call "check_plan" [0, 1, 2] (.cons (.tval (.var 0)) (.cons (.tval (.var 1)) (.cons (.tval (.var 2)) .nil))))) (.seq (.unp [3, 4] (.call "growth" [0, 1] (.cons (.tval (.var 0)) (.cons (.tval (.var 1)) .nil)))) (.seq (.ret (.call "divided" [0, 1] (.cons (.tval (.call "added" [0, 1] (.cons (.tval (.var 3)) (.cons (.tval (.var 4)) .nil)))) (.cons (.tval (.call "added" [0, 1] (.cons (.tval (.var 2)) (.cons (.tval (.call "inverse" [0] (.cons (.tval (.var 2)) .nil))) .nil)))) .nil)))) .nil))), none⟩
def d_own_flight : FDef := ⟨["one", "other", "most", "own"], ["one", "other", "most", "own", "least", "square", "u_more", "v_more"], (.seq (.exp (.call "check_event" [0] (.cons (.tval (.var 0)) .nil))) (.seq (.exp (.call "check_event" [0] (.cons (.tval (.var 1)) .nil))) (.seq (.exp (.call "check_most" [0] (.cons (.tval (.var 2)) .nil))) (.seq (.exp (.call "check_own_time" [0] (.cons (.tval (.var 3)) .nil))) (.seq (.asg 4 (.call "least_own" [0, 1, 2] (.cons (.tval (.var 0)) (.cons (.tval (.var 1)) (.cons (.tval (.var 2)) .nil))))) (.seq (.iff (.tval (.call "is_less" [0, 1] (.cons (.tval (.var 3)) (.cons (.tval (.var 4)) .nil)))) (.seq (.ret (.tup (.cons (.con (.str "less")) (.cons (.var 4) .nil)))) .nil) .nil) (.seq (.unp [6, 7] (.call "growth" [0, 1] (.cons (.tval (.var 0)) (.cons (.tval (.var 1)) .nil)))) (.seq (.asg 5 (.call "multiplied" [0, 1] (.cons (.tval (.var 6)) (.cons (.tval (.var 7)) .nil)))) (.seq (.iff (.tval (.call "is_less" [0, 1] (.cons (.tval (.var 5)) (.cons (.tval (.call "multiplied" [0, 1] (.cons (.tval (.var 3)) (.cons (.tval (.var 3)) .nil)))) .nil)))) (.seq (.ret (.tup (.cons (.con (.str "more")) (.cons (.var 5) .nil)))) .nil) .nil) (.seq (.ret (.tup (.cons (.con (.str "plan")) (.cons (.call "then_straight" [0, 1, 2, 3] (.cons (.tval (.var 6)) (.cons (.tval (.var 7)) (.cons (.tval (.var 2)) (.cons (.tval (.var 3)) .nil))))) .nil)))) .nil)))))))))), none⟩
def d_then_straight : FDef := ⟨["u_more", "v_more", "most", "own"], ["u_more", "v_more", "most", "own", "room", "ends", "parts", "first", "rest", "pace"], (.seq (.iff (.tval (.cmp .eq (.var 3) (.glo "ZERO"))) (.seq (.ret (.tup .nil)) .nil) .nil) (.seq (.asg 4 (.call "subtracted" [0, 1] (.cons (.tval (.call "multiplied" [0, 1] (.cons (.tval (.var 0)) (.cons (.tval (.var 1)) .nil)))) (.cons (.tval (.call "multiplied" [0, 1] (.cons (.tval (.var 3)) (.cons (.tval (.var 3)) .nil)))) .nil)))) (.seq (.asg 5 (.call "added" [0, 1] (.cons (.tval (.call "divided" [0, 1] (.cons (.tval (.var 0)) (.cons (.tval (.var 2)) .nil)))) (.cons (.tval (.call "multiplied" [0, 1] (.cons (.tval (.var 1)) (.cons (.tval (.var 2)) .nil)))) .nil)))) (.seq (.asg 6 (.call "subtracted" [0, 1] (.cons (.tval (.var 5)) (.cons (.tval (.call "added" [0, 1] (.cons (.tval (.var 3)) (.cons (.tval (.var 3)) .nil)))) .nil)))) (.seq (.asg 7 (.ite (.tval (.cmp .eq (.var 6) (.glo "ZERO"))) (.glo "ZERO") (.call "divided" [0, 1] (.cons (.tval (.var 4)) (.cons (.tval (.var 6)) .nil))))) (.seq (.asg 8 (.call "subtracted" [0, 1] (.cons (.tval (.var 3)) (.cons (.tval (.var 7)) .nil)))) (.seq (.asg 9 (.call "divided" [0, 1] (.cons (.tval (.call "subtracted" [0, 1] (.cons (.tval (.var 0)) (.cons (.tval (.call "multiplied" [0, 1] (.cons (.tval (.var 2)) (.cons (.tval (.var 7)) .nil)))) .nil)))) (.cons (.tval (.var 8)) .nil)))) (.seq (.ret (.call "flown_pieces" [0] (.cons (.tval (.tup (.cons (.tup (.cons (.var 2) (.cons (.var 7) .nil))) (.cons (.tup (.cons (.var 9) (.cons (.var 8) .nil))) .nil)))) .nil))) .nil)))))))), none⟩
def d_shows_own_flight : FDef := ⟨["one", "other", "most", "own", "value"], ["one", "other", "most", "own", "value", "told", "whole", "_", "time"], (.seq (.asg 5 (.call "own_flight" [0, 1, 2, 3] (.cons (.tval (.var 0)) (.cons (.tval (.var 1)) (.cons (.tval (.var 2)) (.cons (.tval (.var 3)) .nil)))))) (.seq (.iff (.tval (.cmp .ne (.ix (.var 5) (.con (.int 0))) (.con (.str "plan")))) (.seq (.ret (.call "is_same" [0, 1] (.cons (.tval (.var 4)) (.cons (.tval (.var 5)) .nil)))) .nil) .nil) (.seq (.iff (.tor (.tnot (.tval (.call "is_plan" [0, 1] (.cons (.tval (.var 4)) (.cons (.tval (.var 2)) .nil))))) (.tnot (.tval (.call "leads" [0, 1, 2] (.cons (.tval (.var 0)) (.cons (.tval (.var 1)) (.cons (.tval (.ix (.var 4) (.con (.int 1)))) .nil))))))) (.seq (.ret (.con (.bl false))) .nil) .nil) (.seq (.asg 6 (.glo "ZERO")) (.seq (.for_ (.seq) (.cons (.ix (.var 4) (.con (.int 1))) .nil) (.many [7, 8]) (.seq (.asg 6 (.call "added" [0, 1] (.cons (.tval (.var 6)) (.cons (.tval (.var 8)) .nil)))) .nil)) (.seq (.ret (.cmp .eq (.var 6) (.var 3))) .nil)))))), none⟩
def d__law_pot : FDef := ⟨["script", "place"], ["script", "place", "cell", "own", "small"], (.seq (.asg 2 (.ite (.tval (.cmp .lt (.var 1) (.blt .len (.cons (.var 0) .nil)))) (.ix (.var 0) (.var 1)) (.bin .add (.bin .add (.bin .mod (.blt .sum (.cons (.slc (.var 0) .nil (.tval (.con (.int 1)))) .nil)) (.con (.int 1000003))) (.bin .mul (.con (.int 1592)) (.var 1))) (.con (.int 790))))) (.seq (.asg 3 (.bin .mul (.bin .mod (.blt .int (.cons (.blt .abs (.cons (.var 2) .nil)) .nil)) (.bin .pow (.bin .pow (.con (.int 10)) (.con (.int 60))) (.con (.int 5)))) (.blt .int (.cons (.cmp .ge (.blt .abs (.cons (.var 2) .nil)) (.bin .pow (.con (.int 10)) (.con (.int 18)))) .nil)))) (.seq (.asg 4 (.bin .mod (.blt .int (.cons (.var 2) .nil)) (.con (.int 2305843009213693951)))) (.seq (.ret (.lst (.cons (.var 3) (.cons (.bin .mod (.blt .int (.cons (.bin .add (.bin .add (.bin .mul (.var 4) (.con (.int 76108))) (.bin .mul (.bin .mul (.con (.int 9140)) (.var 1)) (.var 1))) (.con (.int 772))) .nil)) (.con (.int 2305843009213693921))) (.cons (.con (.int 0)) .nil))))) .nil)))), none⟩
def d__law_take : FDef := ⟨["pot", "upto"], ["pot", "upto", "prime", "blend", "digit"], (.seq (.iff (.tval (.cmp .gt (.ixv 0 (.con (.int 0))) (.con (.int 0)))) (.seq (.asg 4 (.bin .mod (.blt .int (.cons (.ixv 0 (.con (.int 0))) .nil)) (.var 1))) (.seq (.seti 0 (.con (.int 0)) (.bin .div (.ixv 0 (.con (.int 0))) (.var 1))) (.seq (.ret (.var 4)) .nil))) .nil) (.seq (.seti 0 (.con (.int 2)) (.bin .add (.ixv 0 (.con (.int 2))) (.con (.int 1)))) (.seq (.asg 2 (.ix (.lst (.cons (.con (.int 2147483647)) (.cons (.con (.int 2147483629)) (.cons (.con (.int 2147483587)) (.cons (.con (.int 2147483579)) (.cons (.con (.int 2147483563)) .nil)))))) (.bin .mod (.blt .int (.cons (.ixv 0 (.con (.int 2))) .nil)) (.con (.int 5))))) (.seq (.asg 3 (.bin .mod (.blt .int (.cons (.bin .pow (.blt .int (.cons (.bin .add (.bin .add (.ixv 0 (.con (.int 1))) (.bin .mul (.bin .mul (.con (.int 101440)) (.ixv 0 (.con (.int 2)))) (.ixv 0 (.con (.int 2))))) (.con (.int 1150))) .nil)) (.con (.int 3))) .nil)) (.var 2))) (.seq (.asg 3 (.bin .mod (.blt .int (.cons (.bin .mul (.var 3) (.bin .add (.bin .mod (.blt .int (.cons (.var 3) .nil)) (.con (.int 11078))) (.bin .mul (.con (.int 316)) (.ixv 0 (.con (.int 2)))))) .nil)) (.con (.int 2305843009213693907)))) (.seq (.ret (.bin .mod (.blt .int (.cons (.bin .div (.var 3) (.con (.int 167))) .nil)) (.var 1))) .nil)))))), none⟩
def d__law_of : FDef := ⟨["pot", "some"], ["pot", "some"], (.seq (.ret (.ix (.var 1) (.call "_law_take" [0, 1] (.cons (.ref 0) (.cons (.tval (.blt .len (.cons (.var 1) .nil))) .nil))))) .nil), none⟩
def d__law_cells : FDef := ⟨["script", "most"], ["script", "most"], (.seq (.ret (.lrng (.blt .max (.cons (.con (.int 1)) (.cons (.blt .min (.cons (.var 1) (.cons (.blt .len (.cons (.var 0) .nil)) .nil))) .nil))))) .nil), none⟩
def d__law_frac_common : FDef := ⟨["one", "other"], ["one", "other"], (.seq (.par 0 1 false false (.blt .abs (.cons (.var 0) .nil)) (.blt .abs (.cons (.var 1) .nil))) (.seq (.whl (.tval (.cmp .gt (.var 1) (.con (.int 0)))) (.seq (.par 0 1 false false (.var 1) (.bin .mod (.blt .int (.cons (.var 0) .nil)) (.var 1))) .nil)) (.seq (.ret (.var 0)) .nil))), none⟩
def d__law_frac : FDef := ⟨["top", "bottom"], ["top", "bottom", "by"], (.seq (.asg 2 (.call "_law_frac_common" [0, 1] (.cons (.tval (.var 0)) (.cons (.tval (.var 1)) .nil)))) (.seq (.asg 2 (.ite (.tval (.cmp .gt (.var 1) (.con (.int 0)))) (.var 2) (.neg (.var 2)))) (.seq (.ret (.tup (.cons (.bin .div (.var 0) (.var 2)) (.cons (.bin .div (.var 1) (.var 2)) .nil)))) .nil))), none⟩
def d__law_frac_plus : FDef := ⟨["one", "other"], ["one", "other"], (.seq (.ret (.call "_law_frac" [0, 1] (.cons (.tval (.bin .add (.bin .mul (.ix (.var 0) (.con (.int 0))) (.ix (.var 1) (.con (.int 1)))) (.bin .mul (.ix (.var 1) (.con (.int 0))) (.ix (.var 0) (.con (.int 1)))))) (.cons (.tval (.bin .mul (.ix (.var 0) (.con (.int 1))) (.ix (.var 1) (.con (.int 1))))) .nil)))) .nil), none⟩
def d__law_frac_less : FDef := ⟨["one", "other"], ["one", "other"], (.seq (.ret (.call "_law_frac" [0, 1] (.cons (.tval (.bin .sub (.bin .mul (.ix (.var 0) (.con (.int 0))) (.ix (.var 1) (.con (.int 1)))) (.bin .mul (.ix (.var 1) (.con (.int 0))) (.ix (.var 0) (.con (.int 1)))))) (.cons (.tval (.bin .mul (.ix (.var 0) (.con (.int 1))) (.ix (.var 1) (.con (.int 1))))) .nil)))) .nil), none⟩
def d__law_frac_times : FDef := ⟨["one", "other"], ["one", "other"], (.seq (.ret (.call "_law_frac" [0, 1] (.cons (.tval (.bin .mul (.ix (.var 0) (.con (.int 0))) (.ix (.var 1) (.con (.int 0))))) (.cons (.tval (.bin .mul (.ix (.var 0) (.con (.int 1))) (.ix (.var 1) (.con (.int 1))))) .nil)))) .nil), none⟩
def d__law_frac_over : FDef := ⟨["one", "other"], ["one", "other"], (.seq (.ret (.call "_law_frac" [0, 1] (.cons (.tval (.bin .mul (.ix (.var 0) (.con (.int 0))) (.ix (.var 1) (.con (.int 1))))) (.cons (.tval (.bin .mul (.ix (.var 0) (.con (.int 1))) (.ix (.var 1) (.con (.int 0))))) .nil)))) .nil), none⟩
def d__law_frac_is_less : FDef := ⟨["one", "other"], ["one", "other"], (.seq (.ret (.cmp .lt (.bin .mul (.ix (.var 0) (.con (.int 0))) (.ix (.var 1) (.con (.int 1)))) (.bin .mul (.ix (.var 1) (.con (.int 0))) (.ix (.var 0) (.con (.int 1)))))) .nil), none⟩
def d__law_frac_sum : FDef := ⟨["some"], ["some", "found", "one"], (.seq (.asg 1 (.tup (.cons (.con (.int 0)) (.cons (.con (.int 1)) .nil)))) (.seq (.for_ (.seq) (.cons (.var 0) .nil) (.one 2) (.seq (.asg 1 (.call "_law_frac_plus" [0, 1] (.cons (.tval (.var 1)) (.cons (.tval (.var 2)) .nil)))) .nil)) (.seq (.ret (.var 1)) .nil))), none⟩
def d__law_frac_is : FDef := ⟨["value"], ["value", "one"], (.seq (.iff (.tor (.tnot (.tval (.blt (.isi "tuple") (.cons (.var 0) .nil)))) (.tval (.cmp .ne (.blt .len (.cons (.var 0) .nil)) (.con (.int 2))))) (.seq (.ret (.con (.bl false))) .nil) .nil) (.seq (.iff (.tor (.tnot (.tval (.blt .all (.cons (.comp (.seq) (.cons (.var 0) .nil) (.one 1) .tyes (.vand (.blt (.isi "int") (.cons (.var 1) .nil)) (.vnot (.blt (.isi "bool") (.cons (.var 1) .nil)))) [1]) .nil)))) (.tval (.cmp .lt (.ix (.var 0) (.con (.int 1))) (.con (.int 1))))) (.seq (.ret (.con (.bl false))) .nil) .nil) (.seq (.ret (.cmp .eq (.call "_law_frac_common" [0, 1] (.cons (.tval (.ix (.var 0) (.con (.int 0)))) (.cons (.tval (.ix (.var 0) (.con (.int 1)))) .nil))) (.con (.int 1)))) .nil))), none⟩
def d__law_frac_is_pace : FDef := ⟨["value"], ["value"], (.seq (.ret (.vand (.call "_law_frac_is" [0] (.cons (.tval (.var 0)) .nil)) (.cmp .gt (.ix (.var 0) (.con (.int 0))) (.con (.int 0))))) .nil), none⟩
def d__law_frac_drawn : FDef := ⟨["pot", "low", "high"], ["pot", "low", "high", "bottom"], (.seq (.asg 3 (.call "_law_of" [0, 1] (.cons (.ref 0) (.cons (.tval (.lst (.cons (.con (.int 1)) (.cons (.con (.int 1)) (.cons (.con (.int 1)) (.cons (.con (.int 2)) (.cons (.con (.int 3)) (.cons (.con (.int 5)) .nil)))))))) .nil)))) (.seq (.ret (.call "_law_frac" [0, 1] (.cons (.tval (.bin .add (.bin .mul (.var 1) (.var 3)) (.call "_law_take" [0, 1] (.cons (.ref 0) (.cons (.tval (.bin .add (.bin .mul (.bin .sub (.var 2) (.var 1)) (.var 3)) (.con (.int 1)))) .nil))))) (.cons (.tval (.var 3)) .nil)))) .nil)), none⟩
def d__law_frac_time : FDef := ⟨["pot"], ["pot"], (.seq (.ret (.call "_law_of" [0, 1] (.cons (.ref 0) (.cons (.tval (.lst (.cons (.tup (.cons (.con (.int 1)) (.cons (.con (.int 1)) .nil))) (.cons (.tup (.cons (.con (.int 2)) (.cons (.con (.int 1)) .nil))) (.cons (.tup (.cons (.con (.int 3)) (.cons (.con (.int 1)) .nil))) (.cons (.tup (.cons (.con (.int 1)) (.cons (.con (.int 2)) .nil))) (.cons (.tup (.cons (.con (.int 3)) (.cons (.con (.int 2)) .nil))) (.cons (.tup (.cons (.con (.int 5)) (.cons (.con (.int 1)) .nil))) (.cons (.tup (.cons (.con (.int 1)) (.cons (.con (.int 3)) .nil))) (.cons (.tup (.cons (.con (.int 7)) (.cons (.con (.int 3)) .nil))) (.cons (.tup (.cons (.con (.int 12)) (.cons (.con (.int 1)) .nil))) .nil))))))))))) .nil)))) .nil), none⟩
def d__law_event_drawn : FDef := ⟨["pot"], ["pot"], (.seq (.ret (.tup (.cons (.call "_law_frac_drawn" [0, 1, 2] (.cons (.ref 0) (.cons (.tval (.neg (.con (.int 6)))) (.cons (.tval (.con (.int 6))) .nil)))) (.cons (.call "_law_frac_drawn" [0, 1, 2] (.cons (.ref 0) (.cons (.tval (.neg (.con (.int 6)))) (.cons (.tval (.con (.int 6))) .nil)))) .nil)))) .nil), none⟩
def d__law_event_gone : FDef := ⟨["event", "pace", "time"], ["event", "pace", "time", "more"], (.seq (.asg 3 (.tup (.cons (.call "_law_frac_times" [0, 1] (.cons (.tval (.var 1)) (.cons (.tval (.var 2)) .nil))) (.cons (.call "_law_frac_over" [0, 1] (.cons (.tval (.var 2)) (.cons (.tval (.var 1)) .nil))) .nil)))) (.seq (.ret (.tup (.cons (.call "_law_frac_plus" [0, 1] (.cons (.tval (.ix (.var 0) (.con (.int 0)))) (.cons (.tval (.ix (.var 3) (.con (.int 0)))) .nil))) (.cons (.call "_law_frac_plus" [0, 1] (.cons (.tval (.ix (.var 0) (.con (.int 1)))) (.cons (.tval (.ix (.var 3) (.con (.int 1)))) .nil))) .nil)))) .nil)), none⟩
def d__law_event_more : FDef := ⟨["one", "other"], ["one", "other", "here", "later"], (.seq (.ret (.blt .tuple (.cons (.comp (.zip) (.cons (.var 0) (.cons (.var 1) .nil)) (.many [2, 3]) .tyes (.call "_law_frac_less" [0, 1] (.cons (.tval (.var 3)) (.cons (.tval (.var 2)) .nil))) [2, 3]) .nil))) .nil), none⟩
def d__law_is : FDef := ⟨["told", "due"], ["told", "due", "is_fit", "one", "other"], (.seq (.iff (.tval (.blt (.isi "tuple") (.cons (.var 1) .nil))) (.seq (.asg 2 (.vand (.blt (.isi "tuple") (.cons (.var 0) .nil)) (.cmp .eq (.blt .len (.cons (.var 0) .nil)) (.blt .len (.cons (.var 1) .nil))))) (.seq (.ret (.vand (.var 2) (.blt .all (.cons (.comp (.zip) (.cons (.var 0) (.cons (.var 1) .nil)) (.many [3, 4]) .tyes (.call "_law_is" [0, 1] (.cons (.tval (.var 3)) (.cons (.tval (.var 4)) .nil))) [3, 4]) .nil)))) .nil)) .nil) (.seq (.iff (.tval (.blt (.isi "bool") (.cons (.var 1) .nil))) (.seq (.ret (.vand (.blt (.isi "bool") (.cons (.var 0) .nil)) (.cmp .eq (.var 0) (.var 1)))) .nil) .nil) (.seq (.iff (.tval (.blt (.isi "int") (.cons (.var 1) .nil))) (.seq (.ret (.vand (.blt (.isi "int") (.cons (.var 0) .nil)) (.vand (.vnot (.blt (.isi "bool") (.cons (.var 0) .nil))) (.cmp .eq (.var 0) (.var 1))))) .nil) .nil) (.seq (.ret (.ite (.tval (.cmp .is (.var 1) (.con .non))) (.cmp .is (.var 0) (.con .non)) (.vand (.blt (.isi "str") (.cons (.var 0) .nil)) (.cmp .eq (.var 0) (.var 1))))) .nil)))), none⟩
def d__law_within_ends : FDef := ⟨["pot"], ["pot", "way", "other", "lap", "one", "most"], (.seq (.par 4 5 false false (.call "_law_event_drawn" [0] (.cons (.ref 0) .nil)) (.call "_law_of" [0, 1] (.cons (.ref 0) (.cons (.tval (.lst (.cons (.tup (.cons (.con (.int 2)) (.cons (.con (.int 1)) .nil))) (.cons (.tup (.cons (.con (.int 3)) (.cons (.con (.int 1)) .nil))) (.cons (.tup (.cons (.con (.int 3)) (.cons (.con (.int 2)) .nil))) (.cons (.tup (.cons (.con (.int 1)) (.cons (.con (.int 1)) .nil))) (.cons (.tup (.cons (.con (.int 5)) (.cons (.con (.int 2)) .nil))) .nil))))))) .nil)))) (.seq (.asg 1 (.call "_law_take" [0, 1] (.cons (.ref 0) (.cons (.tval (.con (.int 6))) .nil)))) (.seq (.iff (.tval (.cmp .eq (.var 1) (.con (.int 0)))) (.seq (.ret (.tup (.cons (.var 4) (.cons (.call "_law_event_drawn" [0] (.cons (.ref 0) .nil)) (.cons (.var 5) .nil))))) .nil) .nil) (.seq (.asg 2 (.var 4)) (.seq (.for_ (.rng) (.cons (.bin .add (.con (.int 1)) (.call "_law_take" [0, 1] (.cons (.ref 0) (.cons (.tval (.con (.int 3))) .nil)))) .nil) (.one 3) (.seq (.asg 2 (.call "_law_event_gone" [0, 1, 2] (.cons (.tval (.var 2)) (.cons (.tval (.call "_law_within_pace" [0, 1] (.cons (.ref 0) (.cons (.tval (.var 5)) .nil)))) (.cons (.tval (.call "_law_frac_time" [0] (.cons (.ref 0) .nil))) .nil))))) .nil)) (.seq (.iff (.tval (.cmp .eq (.var 1) (.con (.int 1)))) (.seq (.asg 2 (.tup (.cons (.call "_law_frac_plus" [0, 1] (.cons (.tval (.ix (.var 2) (.con (.int 0)))) (.cons (.tval (.call "_law_frac_time" [0] (.cons (.ref 0) .nil))) .nil))) (.cons (.ix (.var 2) (.con (.int 1))) .nil)))) .nil) .nil) (.seq (.ret (.tup (.cons (.var 4) (.cons (.ite (.tand (.tval (.cmp .eq (.var 1) (.con (.int 2)))) (.tval (.cmp .eq (.call "_law_take" [0, 1] (.cons (.ref 0) (.cons (.tval (.con (.int 3))) .nil))) (.con (.int 0))))) (.var 4) (.var 2)) (.cons (.var 5) .nil))))) .nil))))))), none⟩
def d__law_within_pace : FDef := ⟨["pot", "most"], ["pot", "most", "back", "some", "bound"], (.seq (.asg 2 (.call "_law_frac_over" [0, 1] (.cons (.tval (.tup (.cons (.con (.int 1)) (.cons (.con (.int 1)) .nil)))) (.cons (.tval (.var 1)) .nil)))) (.seq (.asg 3 (.comp (.seq) (.cons (.tup (.cons (.var 1) (.cons (.var 2) .nil))) .nil) (.one 4) .tyes (.call "_law_frac_over" [0, 1] (.cons (.tval (.call "_law_frac_plus" [0, 1] (.cons (.tval (.var 4)) (.cons (.tval (.tup (.cons (.con (.int 1)) (.cons (.con (.int 1)) .nil)))) .nil)))) (.cons (.tval (.tup (.cons (.con (.int 2)) (.cons (.con (.int 1)) .nil)))) .nil))) [4])) (.seq (.ret (.call "_law_of" [0, 1] (.cons (.ref 0) (.cons (.tval (.bin .add (.var 3) (.lst (.cons (.var 1) (.cons (.var 2) (.cons (.tup (.cons (.con (.int 1)) (.cons (.con (.int 1)) .nil))) .nil)))))) .nil)))) .nil))), none⟩
def d__law_within_word : FDef := ⟨["one", "other", "most"], ["one", "other", "most", "square", "u", "v"], (.seq (.unp [4, 5] (.call "_law_event_more" [0, 1] (.cons (.tval (.var 0)) (.cons (.tval (.var 1)) .nil)))) (.seq (.iff (.tor (.tval (.cmp .lt (.ix (.var 4) (.con (.int 0))) (.con (.int 0)))) (.tval (.cmp .lt (.ix (.var 5) (.con (.int 0))) (.con (.int 0))))) (.seq (.ret (.tup (.cons (.con (.str "behind")) .nil))) .nil) .nil) (.seq (.asg 3 (.call "_law_frac_times" [0, 1] (.cons (.tval (.var 2)) (.cons (.tval (.var 2)) .nil)))) (.seq (.iff (.tval (.call "_law_frac_is_less" [0, 1] (.cons (.tval (.call "_law_frac_times" [0, 1] (.cons (.tval (.var 3)) (.cons (.tval (.var 5)) .nil)))) (.cons (.tval (.var 4)) .nil)))) (.seq (.ret (.tup (.cons (.con (.str "beyond")) (.cons (.con (.str "u")) .nil)))) .nil) .nil) (.seq (.ret (.ite (.tval (.call "_law_frac_is_less" [0, 1] (.cons (.tval (.call "_law_frac_times" [0, 1] (.cons (.tval (.var 3)) (.cons (.tval (.var 4)) .nil)))) (.cons (.tval (.var 5)) .nil)))) (.tup (.cons (.con (.str "beyond")) (.cons (.con (.str "v")) .nil))) (.tup (.cons (.con (.str "plan")) .nil)))) .nil))))), none⟩
def d__law_within_leads : FDef := ⟨["one", "other", "most", "pieces"], ["one", "other", "most", "pieces", "piece", "back", "event", "part"], (.seq (.iff (.tnot (.tval (.blt (.isi "tuple") (.cons (.var 3) .nil)))) (.seq (.ret (.con (.bl false))) .nil) .nil) (.seq (.par 5 6 false false (.call "_law_frac_over" [0, 1] (.cons (.tval (.tup (.cons (.con (.int 1)) (.cons (.con (.int 1)) .nil)))) (.cons (.tval (.var 2)) .nil))) (.var 0)) (.seq (.for_ (.seq) (.cons (.var 3) .nil) (.one 4) (.seq (.iff (.tor (.tnot (.tval (.blt (.isi "tuple") (.cons (.var 4) .nil)))) (.tor (.tval (.cmp .ne (.blt .len (.cons (.var 4) .nil)) (.con (.int 2)))) (.tnot (.tval (.blt .all (.cons (.comp (.seq) (.cons (.var 4) .nil) (.one 7) .tyes (.call "_law_frac_is_pace" [0] (.cons (.tval (.var 7)) .nil)) [7]) .nil)))))) (.seq (.ret (.con (.bl false))) .nil) .nil) (.seq (.iff (.tor (.tval (.call "_law_frac_is_less" [0, 1] (.cons (.tval (.ix (.var 4) (.con (.int 0)))) (.cons (.tval (.var 5)) .nil)))) (.tval (.call "_law_frac_is_less" [0, 1] (.cons (.tval (.var 2)) (.cons (.tval (.ix (.var 4) (.con (.int 0)))) .nil))))) (.seq (.ret (.con (.bl false))) .nil) .nil) (.seq (.asg 6 (.call "_law_event_gone" [0, 1, 2] (.cons (.tval (.var 6)) (.cons (.tval (.ix (.var 4) (.con (.int 0)))) (.cons (.tval (.ix (.var 4) (.con (.int 1)))) .nil))))) .nil)))) (.seq (.ret (.cmp .eq (.var 6) (.var 1))) .nil)))), none⟩
def d__law_within_least : FDef := ⟨["one", "other", "most"], ["one", "other", "most", "u", "v"], (.seq (.unp [3, 4] (.call "_law_event_more" [0, 1] (.cons (.tval (.var 0)) (.cons (.tval (.var 1)) .nil)))) (.seq (.ret (.call "_law_frac_over" [0, 1] (.cons (.tval (.call "_law_frac_plus" [0, 1] (.cons (.tval (.var 3)) (.cons (.tval (.var 4)) .nil)))) (.cons (.tval (.call "_law_frac_plus" [0, 1] (.cons (.tval (.var 2)) (.cons (.tval (.call "_law_frac_over" [0, 1] (.cons (.tval (.tup (.cons (.con (.int 1)) (.cons (.con (.int 1)) .nil)))) (.cons (.tval (.var 2)) .nil)))) .nil)))) .nil)))) .nil)), none⟩
def d__law_root : FDef := ⟨["number"], ["number", "low", "high", "middle"], (.seq (.unp [1, 2] (.tup (.cons (.con (.int 0)) (.cons (.con (.int 1)) .nil)))) (.seq (.whl (.tval (.cmp .le (.bin .mul (.var 2) (.var 2)) (.var 0))) (.seq (.asg 2 (.bin .mul (.con (.int 2)) (.var 2))) .nil)) (.seq (.whl (.tval (.cmp .gt (.bin .sub (.var 2) (.var 1)) (.con (.int 1)))) (.seq (.asg 3 (.bin .div (.bin .add (.var 1) (.var 2)) (.con (.int 2)))) (.seq (.unp [1, 2] (.ite (.tval (.cmp .le (.bin .mul (.var 3) (.var 3)) (.var 0))) (.tup (.cons (.var 3) (.cons (.var 2) .nil))) (.tup (.cons (.var 1) (.cons (.var 3) .nil))))) .nil))) (.seq (.ret (.var 1)) .nil)))), none⟩
def d__law_wished : FDef := ⟨["pot", "least", "square"], ["pot", "least", "square", "some"], (.seq (.own 3 (.lst (.cons (.var 1) (.cons (.call "_law_frac_plus" [0, 1] (.cons (.tval (.var 1)) (.cons (.tval (.tup (.cons (.con (.int 1)) (.cons (.con (.int 7)) .nil)))) .nil))) (.cons (.call "_law_frac_times" [0, 1] (.cons (.tval (.var 1)) (.cons (.tval (.tup (.cons (.con (.int 9)) (.cons (.con (.int 10)) .nil)))) .nil))) .nil))))) (.seq (.app 3 (.call "_law_frac" [0, 1] (.cons (.tval (.call "_law_root" [0] (.cons (.tval (.bin .div (.bin .mul (.ix (.var 2) (.con (.int 0))) (.bin .pow (.con (.int 10)) (.con (.int 6)))) (.ix (.var 2) (.con (.int 1))))) .nil))) (.cons (.tval (.con (.int 1000))) .nil)))) (.seq (.app 3 (.call "_law_frac_over" [0, 1] (.cons (.tval (.call "_law_frac_plus" [0, 1] (.cons (.tval (.var 1)) (.cons (.tval (.ixv 3 (.neg (.con (.int 1))))) .nil)))) (.cons (.tval (.tup (.cons (.con (.int 2)) (.cons (.con (.int 1)) .nil)))) .nil)))) (.seq (.app 3 (.call "_law_frac_plus" [0, 1] (.cons (.tval (.call "_law_frac_times" [0, 1] (.cons (.tval (.var 1)) (.cons (.tval (.tup (.cons (.con (.int 2)) (.cons (.con (.int 1)) .nil)))) .nil)))) (.cons (.tval (.tup (.cons (.con (.int 40)) (.cons (.con (.int 1)) .nil)))) .nil)))) (.seq (.ret (.call "_law_of" [0, 1] (.cons (.ref 0) (.cons (.tval (.bin .add (.var 3) (.slc (.var 3) (.tval (.con (.int 3))) (.tval (.con (.int 5)))))) .nil)))) .nil))))), none⟩
def d__law_is_wish_right : FDef := ⟨["one", "other", "most", "own", "least", "square"], ["one", "other", "most", "own", "least", "square", "told", "piece"], (.seq (.asg 6 (.call "own_flight" [0, 1, 2, 3] (.cons (.tval (.var 0)) (.cons (.tval (.var 1)) (.cons (.tval (.var 2)) (.cons (.tval (.var 3)) .nil)))))) (.seq (.iff (.tor (.tnot (.tval (.blt (.isi "tuple") (.cons (.var 6) .nil)))) (.tval (.cmp .isn (.call "shows_own_flight" [0, 1, 2, 3, 4] (.cons (.tval (.var 0)) (.cons (.tval (.var 1)) (.cons (.tval (.var 2)) (.cons (.tval (.var 3)) (.cons (.tval (.var 6)) .nil)))))) (.con (.bl true))))) (.seq (.ret (.con (.bl false))) .nil) .nil) (.seq (.iff (.tval (.call "_law_frac_is_less" [0, 1] (.cons (.tval (.var 3)) (.cons (.tval (.var 4)) .nil)))) (.seq (.ret (.call "_law_is" [0, 1] (.cons (.tval (.var 6)) (.cons (.tval (.tup (.cons (.con (.str "less")) (.cons (.var 4) .nil)))) .nil)))) .nil) .nil) (.seq (.iff (.tval (.call "_law_frac_is_less" [0, 1] (.cons (.tval (.var 5)) (.cons (.tval (.call "_law_frac_times" [0, 1] (.cons (.tval (.var 3)) (.cons (.tval (.var 3)) .nil)))) .nil)))) (.seq (.ret (.call "_law_is" [0, 1] (.cons (.tval (.var 6)) (.cons (.tval (.tup (.cons (.con (.str "more")) (.cons (.var 5) .nil)))) .nil)))) .nil) .nil) (.seq (.iff (.tor (.tval (.cmp .ne (.blt .len (.cons (.var 6) .nil)) (.con (.int 2)))) (.tor (.tnot (.tval (.call "_law_is" [0, 1] (.cons (.tval (.ix (.var 6) (.con (.int 0)))) (.cons (.tval (.con (.str "plan"))) .nil))))) (.tnot (.tval (.call "_law_within_leads" [0, 1, 2, 3] (.cons (.tval (.var 0)) (.cons (.tval (.var 1)) (.cons (.tval (.var 2)) (.cons (.tval (.ix (.var 6) (.con (.int 1)))) .nil))))))))) (.seq (.ret (.con (.bl false))) .nil) .nil) (.seq (.ret (.vand (.cmp .lt (.blt .len (.cons (.ix (.var 6) (.con (.int 1))) .nil)) (.con (.int 3))) (.cmp .eq (.call "_law_frac_sum" [0] (.cons (.tval (.comp (.seq) (.cons (.ix (.var 6) (.con (.int 1))) .nil) (.one 7) .tyes (.ix (.var 7) (.con (.int 1))) [7])) .nil)) (.var 3)))) .nil)))))), none⟩
def d__law_right : FDef := ⟨["pot"], ["pot", "lap", "square", "one", "other", "most", "more", "least"], (.seq (.unp [3, 4, 5] (.call "_law_within_ends" [0] (.cons (.ref 0) .nil))) (.seq (.for_ (.rng) (.cons (.con (.int 4)) .nil) (.one 1) (.seq (.iff (.tval (.cmp .eq (.call "_law_within_word" [0, 1, 2] (.cons (.tval (.var 3)) (.cons (.tval (.var 4)) (.cons (.tval (.var 5)) .nil)))) (.tup (.cons (.con (.str "plan")) .nil)))) (.seq .brk .nil) .nil) (.seq (.unp [3, 4, 5] (.call "_law_within_ends" [0] (.cons (.ref 0) .nil))) .nil))) (.seq (.iff (.tval (.cmp .ne (.call "_law_within_word" [0, 1, 2] (.cons (.tval (.var 3)) (.cons (.tval (.var 4)) (.cons (.tval (.var 5)) .nil)))) (.tup (.cons (.con (.str "plan")) .nil)))) (.seq (.ret (.con (.bl true))) .nil) .nil) (.seq (.unp [6, 7] (.tup (.cons (.call "_law_event_more" [0, 1] (.cons (.tval (.var 3)) (.cons (.tval (.var 4)) .nil))) (.cons (.call "_law_within_least" [0, 1, 2] (.cons (.tval (.var 3)) (.cons (.tval (.var 4)) (.cons (.tval (.var 5)) .nil)))) .nil)))) (.seq (.asg 2 (.call "_law_frac_times" [0, 1] (.cons (.tval (.ix (.var 6) (.con (.int 0)))) (.cons (.tval (.ix (.var 6) (.con (.int 1)))) .nil)))) (.seq (.ret (.blt .all (.cons (.comp (.rng) (.cons (.con (.int 4)) .nil) (.one 1) .tyes (.call "_law_is_wish_right" [0, 1, 2, 3, 4, 5] (.cons (.tval (.var 3)) (.cons (.tval (.var 4)) (.cons (.tval (.var 5)) (.cons (.tval (.call "_law_wished" [0, 1, 2] (.cons (.ref 0) (.cons (.tval (.var 7)) (.cons (.tval (.var 2)) .nil))))) (.cons (.tval (.var 7)) (.cons (.tval (.var 2)) .nil))))))) [1]) .nil))) .nil)))))), none⟩
def d_law : FDef := ⟨["script"], ["script", "place"], (.seq (.ret (.blt .all (.cons (.comp (.seq) (.cons (.call "_law_cells" [0, 1] (.cons (.tval (.var 0)) (.cons (.tval (.con (.int 2))) .nil))) .nil) (.one 1) .tyes (.calln "_law_right" "_law_pot" (.cons (.var 0) (.cons (.var 1) .nil))) [1]) .nil))) .nil), none⟩
def d_ONE : FDef := ⟨[], [], (.seq (.ret (.tup (.cons (.con (.int 1)) (.cons (.con (.int 1)) .nil)))) .nil), none⟩
def d_ZERO : FDef := ⟨[], [], (.seq (.ret (.tup (.cons (.con (.int 0)) (.cons (.con (.int 1)) .nil)))) .nil), none⟩
def T : List (PySem.Str × FDef) := [(("is_plain_integer" : PySem.Str), d_is_plain_integer), (("is_fraction" : PySem.Str), d_is_fraction), (("is_above_zero" : PySem.Str), d_is_above_zero), (("is_time" : PySem.Str), d_is_time), (("in_least_terms" : PySem.Str), d_in_least_terms), (("added" : PySem.Str), d_added), (("subtracted" : PySem.Str), d_subtracted), (("multiplied" : PySem.Str), d_multiplied), (("divided" : PySem.Str), d_divided), (("is_less" : PySem.Str), d_is_less), (("inverse" : PySem.Str), d_inverse), (("is_same" : PySem.Str), d_is_same), (("is_event" : PySem.Str), d_is_event), (("check_event" : PySem.Str), d_check_event), (("growth" : PySem.Str), d_growth), (("flown" : PySem.Str), d_flown), (("check_most" : PySem.Str), d_check_most), (("check_own_time" : PySem.Str), d_check_own_time), (("reach" : PySem.Str), d_reach), (("to_and_fro" : PySem.Str), d_to_and_fro), (("flown_pieces" : PySem.Str), d_flown_pieces), (("is_plan" : PySem.Str), d_is_plan), (("is_piece" : PySem.Str), d_is_piece), (("is_within" : PySem.Str), d_is_within), (("leads" : PySem.Str), d_leads), (("check_plan" : PySem.Str), d_check_plan), (("least_own" : PySem.Str), d_least_own), (("own_flight" : PySem.Str), d_own_flight), (("then_straight" : PySem.Str), d_then_straight), (("shows_own_flight" : PySem.Str), d_shows_own_flight), (("_law_pot" : PySem.Str), d__law_pot), (("_law_take" : PySem.Str), d__law_take), (("_law_of" : PySem.Str), d__law_of), (("_law_cells" : PySem.Str), d__law_cells), (("_law_frac_common" : PySem.Str), d__law_frac_common), (("_law_frac" : PySem.Str), d__law_frac), (("_law_frac_plus" : PySem.Str), d__law_frac_plus), (("_law_frac_less" : PySem.Str), d__law_frac_less), (("_law_frac_times" : PySem.Str), d__law_frac_times), (("_law_frac_over" : PySem.Str), d__law_frac_over), (("_law_frac_is_less" : PySem.Str), d__law_frac_is_less), (("_law_frac_sum" : PySem.Str), d__law_frac_sum), (("_law_frac_is" : PySem.Str), d__law_frac_is), (("_law_frac_is_pace" : PySem.Str), d__law_frac_is_pace), (("_law_frac_drawn" : PySem.Str), d__law_frac_drawn), (("_law_frac_time" : PySem.Str), d__law_frac_time), (("_law_event_drawn" : PySem.Str), d__law_event_drawn), (("_law_event_gone" : PySem.Str), d__law_event_gone), (("_law_event_more" : PySem.Str), d__law_event_more), (("_law_is" : PySem.Str), d__law_is), (("_law_within_ends" : PySem.Str), d__law_within_ends), (("_law_within_pace" : PySem.Str), d__law_within_pace), (("_law_within_word" : PySem.Str), d__law_within_word), (("_law_within_leads" : PySem.Str), d__law_within_leads), (("_law_within_least" : PySem.Str), d__law_within_least), (("_law_root" : PySem.Str), d__law_root), (("_law_wished" : PySem.Str), d__law_wished), (("_law_is_wish_right" : PySem.Str), d__law_is_wish_right), (("_law_right" : PySem.Str), d__law_right), (("law" : PySem.Str), d_law), (("ONE" : PySem.Str), d_ONE), (("ZERO" : PySem.Str), d_ZERO)]
def G : GS := ⟨[(("is_plain_integer" : PySem.Str), (1 : Nat), ([] : List (Nat × List PySem.Str × List Nat))), (("is_fraction" : PySem.Str), (1 : Nat), ([] : List (Nat × List PySem.Str × List Nat))), (("is_above_zero" : PySem.Str), (1 : Nat), ([] : List (Nat × List PySem.Str × List Nat))), (("is_time" : PySem.Str), (1 : Nat), ([] : List (Nat × List PySem.Str × List Nat))), (("in_least_terms" : PySem.Str), (2 : Nat), ([] : List (Nat × List PySem.Str × List Nat))), (("added" : PySem.Str), (2 : Nat), ([] : List (Nat × List PySem.Str × List Nat))), (("subtracted" : PySem.Str), (2 : Nat), ([] : List (Nat × List PySem.Str × List Nat))), (("multiplied" : PySem.Str), (2 : Nat), ([] : List (Nat × List PySem.Str × List Nat))), (("divided" : PySem.Str), (2 : Nat), ([] : List (Nat × List PySem.Str × List Nat))), (("is_less" : PySem.Str), (2 : Nat), ([] : List (Nat × List PySem.Str × List Nat))), (("inverse" : PySem.Str), (1 : Nat), ([] : List (Nat × List PySem.Str × List Nat))), (("is_same" : PySem.Str), (2 : Nat), ([] : List (Nat × List PySem.Str × List Nat))), (("is_event" : PySem.Str), (1 : Nat), ([] : List (Nat × List PySem.Str × List Nat))), (("check_event" : PySem.Str), (1 : Nat), ([] : List (Nat × List PySem.Str × List Nat))), (("growth" : PySem.Str), (2 : Nat), ([] : List (Nat × List PySem.Str × List Nat))), (("flown" : PySem.Str), (3 : Nat), ([] : List (Nat × List PySem.Str × List Nat))), (("check_most" : PySem.Str), (1 : Nat), ([] : List (Nat × List PySem.Str × List Nat))), (("check_own_time" : PySem.Str), (1 : Nat), ([] : List (Nat × List PySem.Str × List Nat))), (("reach" : PySem.Str), (3 : Nat), ([] : List (Nat × List PySem.Str × List Nat))), (("to_and_fro" : PySem.Str), (3 : Nat), ([] : List (Nat × List PySem.Str × List Nat))), (("flown_pieces" : PySem.Str), (1 : Nat), ([] : List (Nat × List PySem.Str × List Nat))), (("is_plan" : PySem.Str), (2 : Nat), ([] : List (Nat × List PySem.Str × List Nat))), (("is_piece" : PySem.Str), (2 : Nat), ([] : List (Nat × List PySem.Str × List Nat))), (("is_within" : PySem.Str), (2 : Nat), ([] : List (Nat × List PySem.Str × List Nat))), (("leads" : PySem.Str), (3 : Nat), ([] : List (Nat × List PySem.Str × List Nat))), (("check_plan" : PySem.Str), (3 : Nat), ([] : List (Nat × List PySem.Str × List Nat))), (("least_own" : PySem.Str), (3 : Nat), ([] : List (Nat × List PySem.Str × List Nat))), (("own_flight" : PySem.Str), (4 : Nat), ([] : List (Nat × List PySem.Str × List Nat))), (("then_straight" : PySem.Str), (4 : Nat), ([] : List (Nat × List PySem.Str × List Nat))), (("shows_own_flight" : PySem.Str), (5 : Nat), ([] : List (Nat × List PySem.Str × List Nat))), (("_law_pot" : PySem.Str), (2 : Nat), ([] : List (Nat × List PySem.Str × List Nat))), (("_law_take" : PySem.Str), (2 : Nat), ([] : List (Nat × List PySem.Str × List Nat))), (("_law_of" : PySem.Str), (2 : Nat), ([] : List (Nat × List PySem.Str × List Nat))), (("_law_cells" : PySem.Str), (2 : Nat), ([] : List (Nat × List PySem.Str × List Nat))), (("_law_frac_common" : PySem.Str), (2 : Nat), ([] : List (Nat × List PySem.Str × List Nat))), (("_law_frac" : PySem.Str), (2 : Nat), ([] : List (Nat × List PySem.Str × List Nat))), (("_law_frac_plus" : PySem.Str), (2 : Nat), ([] : List (Nat × List PySem.Str × List Nat))), (("_law_frac_less" : PySem.Str), (2 : Nat), ([] : List (Nat × List PySem.Str × List Nat))), (("_law_frac_times" : PySem.Str), (2 : Nat), ([] : List (Nat × List PySem.Str × List Nat))), (("_law_frac_over" : PySem.Str), (2 : Nat), ([] : List (Nat × List PySem.Str × List Nat))), (("_law_frac_is_less" : PySem.Str), (2 : Nat), ([] : List (Nat × List PySem.Str × List Nat))), (("_law_frac_sum" : PySem.Str), (1 : Nat), ([] : List (Nat × List PySem.Str × List Nat))), (("_law_frac_is" : PySem.Str), (1 : Nat), ([] : List (Nat × List PySem.Str × List Nat))), (("_law_frac_is_pace" : PySem.Str), (1 : Nat), ([] : List (Nat × List PySem.Str × List Nat))), (("_law_frac_drawn" : PySem.Str), (3 : Nat), ([] : List (Nat × List PySem.Str × List Nat))), (("_law_frac_time" : PySem.Str), (1 : Nat), ([] : List (Nat × List PySem.Str × List Nat))), (("_law_event_drawn" : PySem.Str), (1 : Nat), ([] : List (Nat × List PySem.Str × List Nat))), (("_law_event_gone" : PySem.Str), (3 : Nat), ([] : List (Nat × List PySem.Str × List Nat))), (("_law_event_more" : PySem.Str), (2 : Nat), ([] : List (Nat × List PySem.Str × List Nat))), (("_law_is" : PySem.Str), (2 : Nat), ([] : List (Nat × List PySem.Str × List Nat))), (("_law_within_ends" : PySem.Str), (1 : Nat), ([] : List (Nat × List PySem.Str × List Nat))), (("_law_within_pace" : PySem.Str), (2 : Nat), ([] : List (Nat × List PySem.Str × List Nat))), (("_law_within_word" : PySem.Str), (3 : Nat), ([] : List (Nat × List PySem.Str × List Nat))), (("_law_within_leads" : PySem.Str), (4 : Nat), ([] : List (Nat × List PySem.Str × List Nat))), (("_law_within_least" : PySem.Str), (3 : Nat), ([] : List (Nat × List PySem.Str × List Nat))), (("_law_root" : PySem.Str), (1 : Nat), ([] : List (Nat × List PySem.Str × List Nat))), (("_law_wished" : PySem.Str), (3 : Nat), ([] : List (Nat × List PySem.Str × List Nat))), (("_law_is_wish_right" : PySem.Str), (6 : Nat), ([] : List (Nat × List PySem.Str × List Nat))), (("_law_right" : PySem.Str), (1 : Nat), ([] : List (Nat × List PySem.Str × List Nat))), (("law" : PySem.Str), (1 : Nat), ([] : List (Nat × List PySem.Str × List Nat)))], ["ONE", "ZERO"], ["abs", "all", "bool", "int", "isinstance", "len", "list", "max", "min", "range", "str", "sum", "tuple", "zip"], [("gcd", "math.gcd")], [(("_law_pot" : PySem.Str), (2 : Nat))], [], [], [], none⟩
def topS (i : Nat) : Stmt := PySem.Challenge.pw_crewclocks_k09_whole_flights_with_a_wish.main.body.getD i (.Pass ⟨0, 0, 0, 0⟩)
theorem sc_is_plain_integer : FnScope d_is_plain_integer.ns d_is_plain_integer.ps (defScope (topS 10)) := ⟨rfl, rfl, rfl, by decide +kernel, rfl, by decide +kernel, by decide +kernel⟩
theorem ck_is_plain_integer : ckSs G d_is_plain_integer.ns (defScope (topS 10)) d_is_plain_integer.body (defBody (topS 10)) = true := by decide +kernel
theorem sc_is_fraction : FnScope d_is_fraction.ns d_is_fraction.ps (defScope (topS 11)) := ⟨rfl, rfl, rfl, by decide +kernel, rfl, by decide +kernel, by decide +kernel⟩
theorem ck_is_fraction : ckSs G d_is_fraction.ns (defScope (topS 11)) d_is_fraction.body (defBody (topS 11)) = true := by decide +kernel
theorem sc_is_above_zero : FnScope d_is_above_zero.ns d_is_above_zero.ps (defScope (topS 12)) := ⟨rfl, rfl, rfl, by decide +kernel, rfl, by decide +kernel, by decide +kernel⟩
theorem ck_is_above_zero : ckSs G d_is_above_zero.ns (defScope (topS 12)) d_is_above_zero.body (defBody (topS 12)) = true := by decide +kernel
theorem sc_is_time : FnScope d_is_time.ns d_is_time.ps (defScope (topS 13)) := ⟨rfl, rfl, rfl, by decide +kernel, rfl, by decide +kernel, by decide +kernel⟩
theorem ck_is_time : ckSs G d_is_time.ns (defScope (topS 13)) d_is_time.body (defBody (topS 13)) = true := by decide +kernel
theorem sc_in_least_terms : FnScope d_in_least_terms.ns d_in_least_terms.ps (defScope (topS 14)) := ⟨rfl, rfl, rfl, by decide +kernel, rfl, by decide +kernel, by decide +kernel⟩
theorem ck_in_least_terms : ckSs G d_in_least_terms.ns (defScope (topS 14)) d_in_least_terms.body (defBody (topS 14)) = true := by decide +kernel
theorem sc_added : FnScope d_added.ns d_added.ps (defScope (topS 15)) := ⟨rfl, rfl, rfl, by decide +kernel, rfl, by decide +kernel, by decide +kernel⟩
theorem ck_added : ckSs G d_added.ns (defScope (topS 15)) d_added.body (defBody (topS 15)) = true := by decide +kernel
theorem sc_subtracted : FnScope d_subtracted.ns d_subtracted.ps (defScope (topS 16)) := ⟨rfl, rfl, rfl, by decide +kernel, rfl, by decide +kernel, by decide +kernel⟩
theorem ck_subtracted : ckSs G d_subtracted.ns (defScope (topS 16)) d_subtracted.body (defBody (topS 16)) = true := by decide +kernel
theorem sc_multiplied : FnScope d_multiplied.ns d_multiplied.ps (defScope (topS 17)) := ⟨rfl, rfl, rfl, by decide +kernel, rfl, by decide +kernel, by decide +kernel⟩
theorem ck_multiplied : ckSs G d_multiplied.ns (defScope (topS 17)) d_multiplied.body (defBody (topS 17)) = true := by decide +kernel
theorem sc_divided : FnScope d_divided.ns d_divided.ps (defScope (topS 18)) := ⟨rfl, rfl, rfl, by decide +kernel, rfl, by decide +kernel, by decide +kernel⟩
theorem ck_divided : ckSs G d_divided.ns (defScope (topS 18)) d_divided.body (defBody (topS 18)) = true := by decide +kernel
theorem sc_is_less : FnScope d_is_less.ns d_is_less.ps (defScope (topS 19)) := ⟨rfl, rfl, rfl, by decide +kernel, rfl, by decide +kernel, by decide +kernel⟩
theorem ck_is_less : ckSs G d_is_less.ns (defScope (topS 19)) d_is_less.body (defBody (topS 19)) = true := by decide +kernel
theorem sc_inverse : FnScope d_inverse.ns d_inverse.ps (defScope (topS 20)) := ⟨rfl, rfl, rfl, by decide +kernel, rfl, by decide +kernel, by decide +kernel⟩
theorem ck_inverse : ckSs G d_inverse.ns (defScope (topS 20)) d_inverse.body (defBody (topS 20)) = true := by decide +kernel
theorem sc_is_same : FnScope d_is_same.ns d_is_same.ps (defScope (topS 21)) := ⟨rfl, rfl, rfl, by decide +kernel, rfl, by decide +kernel, by decide +kernel⟩
theorem ck_is_same : ckSs G d_is_same.ns (defScope (topS 21)) d_is_same.body (defBody (topS 21)) = true := by decide +kernel
theorem sc_is_event : FnScope d_is_event.ns d_is_event.ps (defScope (topS 23)) := ⟨rfl, rfl, rfl, by decide +kernel, rfl, by decide +kernel, by decide +kernel⟩
theorem ck_is_event : ckSs G d_is_event.ns (defScope (topS 23)) d_is_event.body (defBody (topS 23)) = true := by decide +kernel
theorem sc_check_event : FnScope d_check_event.ns d_check_event.ps (defScope (topS 24)) := ⟨rfl, rfl, rfl, by decide +kernel, rfl, by decide +kernel, by decide +kernel⟩
theorem ck_check_event : ckSs G d_check_event.ns (defScope (topS 24)) d_check_event.body (defBody (topS 24)) = true := by decide +kernel
theorem sc_growth : FnScope d_growth.ns d_growth.ps (defScope (topS 25)) := ⟨rfl, rfl, rfl, by decide +kernel, rfl, by decide +kernel, by decide +kernel⟩
theorem ck_growth : ckSs G d_growth.ns (defScope (topS 25)) d_growth.body (defBody (topS 25)) = true := by decide +kernel
theorem sc_flown : FnScope d_flown.ns d_flown.ps (defScope (topS 26)) := ⟨rfl, rfl, rfl, by decide +kernel, rfl, by decide +kernel, by decide +kernel⟩
theorem ck_flown : ckSs G d_flown.ns (defScope (topS 26)) d_flown.body (defBody (topS 26)) = true := by decide +kernel
theorem sc_check_most : FnScope d_check_most.ns d_check_most.ps (defScope (topS 28)) := ⟨rfl, rfl, rfl, by decide +kernel, rfl, by decide +kernel, by decide +kernel⟩
theorem ck_check_most : ckSs G d_check_most.ns (defScope (topS 28)) d_check_most.body (defBody (topS 28)) = true := by decide +kernel
theorem sc_check_own_time : FnScope d_check_own_time.ns d_check_own_time.ps (defScope (topS 29)) := ⟨rfl, rfl, rfl, by decide +kernel, rfl, by decide +kernel, by decide +kernel⟩
theorem ck_check_own_time : ckSs G d_check_own_time.ns (defScope (topS 29)) d_check_own_time.body (defBody (topS 29)) = true := by decide +kernel
theorem sc_reach : FnScope d_reach.ns d_reach.ps (defScope (topS 30)) := ⟨rfl, rfl, rfl, by decide +kernel, rfl, by decide +kernel, by decide +kernel⟩
theorem ck_reach : ckSs G d_reach.ns (defScope (topS 30)) d_reach.body (defBody (topS 30)) = true := by decide +kernel
theorem sc_to_and_fro : FnScope d_to_and_fro.ns d_to_and_fro.ps (defScope (topS 31)) := ⟨rfl, rfl, rfl, by decide +kernel, rfl, by decide +kernel, by decide +kernel⟩
theorem ck_to_and_fro : ckSs G d_to_and_fro.ns (defScope (topS 31)) d_to_and_fro.body (defBody (topS 31)) = true := by decide +kernel
theorem sc_flown_pieces : FnScope d_flown_pieces.ns d_flown_pieces.ps (defScope (topS 32)) := ⟨rfl, rfl, rfl, by decide +kernel, rfl, by decide +kernel, by decide +kernel⟩
theorem ck_flown_pieces : ckSs G d_flown_pieces.ns (defScope (topS 32)) d_flown_pieces.body (defBody (topS 32)) = true := by decide +kernel
theorem sc_is_plan : FnScope d_is_plan.ns d_is_plan.ps (defScope (topS 33)) := ⟨rfl, rfl, rfl, by decide +kernel, rfl, by decide +kernel, by decide +kernel⟩
theorem ck_is_plan : ckSs G d_is_plan.ns (defScope (topS 33)) d_is_plan.body (defBody (topS 33)) = true := by decide +kernel
theorem sc_is_piece : FnScope d_is_piece.ns d_is_piece.ps (defScope (topS 34)) := ⟨rfl, rfl, rfl, by decide +kernel, rfl, by decide +kernel, by decide +kernel⟩
theorem ck_is_piece : ckSs G d_is_piece.ns (defScope (topS 34)) d_is_piece.body (defBody (topS 34)) = true := by decide +kernel
theorem sc_is_within : FnScope d_is_within.ns d_is_within.ps (defScope (topS 35)) := ⟨rfl, rfl, rfl, by decide +kernel, rfl, by decide +kernel, by decide +kernel⟩
theorem ck_is_within : ckSs G d_is_within.ns (defScope (topS 35)) d_is_within.body (defBody (topS 35)) = true := by decide +kernel
theorem sc_leads : FnScope d_leads.ns d_leads.ps (defScope (topS 36)) := ⟨rfl, rfl, rfl, by decide +kernel, rfl, by decide +kernel, by decide +kernel⟩
theorem ck_leads : ckSs G d_leads.ns (defScope (topS 36)) d_leads.body (defBody (topS 36)) = true := by decide +kernel
theorem sc_check_plan : FnScope d_check_plan.ns d_check_plan.ps (defScope (topS 37)) := ⟨rfl, rfl, rfl, by decide +kernel, rfl, by decide +kernel, by decide +kernel⟩
theorem ck_check_plan : ckSs G d_check_plan.ns (defScope (topS 37)) d_check_plan.body (defBody (topS 37)) = true := by decide +kernel
theorem sc_least_own : FnScope d_least_own.ns d_least_own.ps (defScope (topS 38)) := ⟨rfl, rfl, rfl, by decide +kernel, rfl, by decide +kernel, by decide +kernel⟩
theorem ck_least_own : ckSs G d_least_own.ns (defScope (topS 38)) d_least_own.body (defBody (topS 38)) = true := by decide +kernel
theorem sc_own_flight : FnScope d_own_flight.ns d_own_flight.ps (defScope (topS 39)) := ⟨rfl, rfl, rfl, by decide +kernel, rfl, by decide +kernel, by decide +kernel⟩
theorem ck_own_flight : ckSs G d_own_flight.ns (defScope (topS 39)) d_own_flight.body (defBody (topS 39)) = true := by decide +kernel
theorem sc_then_straight : FnScope d_then_straight.ns d_then_straight.ps (defScope (topS 40)) := ⟨rfl, rfl, rfl, by decide +kernel, rfl, by decide +kernel, by decide +kernel⟩
theorem ck_then_straight : ckSs G d_then_straight.ns (defScope (topS 40)) d_then_straight.body (defBody (topS 40)) = true := by decide +kernel
theorem sc_shows_own_flight : FnScope d_shows_own_flight.ns d_shows_own_flight.ps (defScope (topS 41)) := ⟨rfl, rfl, rfl, by decide +kernel, rfl, by decide +kernel, by decide +kernel⟩
theorem ck_shows_own_flight : ckSs G d_shows_own_flight.ns (defScope (topS 41)) d_shows_own_flight.body (defBody (topS 41)) = true := by decide +kernel
theorem sc__law_pot : FnScope d__law_pot.ns d__law_pot.ps (defScope (topS 43)) := ⟨rfl, rfl, rfl, by decide +kernel, rfl, by decide +kernel, by decide +kernel⟩
theorem ck__law_pot : ckSs G d__law_pot.ns (defScope (topS 43)) d__law_pot.body (defBody (topS 43)) = true := by decide +kernel
theorem sc__law_take : FnScope d__law_take.ns d__law_take.ps (defScope (topS 44)) := ⟨rfl, rfl, rfl, by decide +kernel, rfl, by decide +kernel, by decide +kernel⟩
theorem ck__law_take : ckSs G d__law_take.ns (defScope (topS 44)) d__law_take.body (defBody (topS 44)) = true := by decide +kernel
theorem sc__law_of : FnScope d__law_of.ns d__law_of.ps (defScope (topS 45)) := ⟨rfl, rfl, rfl, by decide +kernel, rfl, by decide +kernel, by decide +kernel⟩
theorem ck__law_of : ckSs G d__law_of.ns (defScope (topS 45)) d__law_of.body (defBody (topS 45)) = true := by decide +kernel
theorem sc__law_cells : FnScope d__law_cells.ns d__law_cells.ps (defScope (topS 46)) := ⟨rfl, rfl, rfl, by decide +kernel, rfl, by decide +kernel, by decide +kernel⟩
theorem ck__law_cells : ckSs G d__law_cells.ns (defScope (topS 46)) d__law_cells.body (defBody (topS 46)) = true := by decide +kernel
theorem sc__law_frac_common : FnScope d__law_frac_common.ns d__law_frac_common.ps (defScope (topS 47)) := ⟨rfl, rfl, rfl, by decide +kernel, rfl, by decide +kernel, by decide +kernel⟩
theorem ck__law_frac_common : ckSs G d__law_frac_common.ns (defScope (topS 47)) d__law_frac_common.body (defBody (topS 47)) = true := by decide +kernel
theorem sc__law_frac : FnScope d__law_frac.ns d__law_frac.ps (defScope (topS 48)) := ⟨rfl, rfl, rfl, by decide +kernel, rfl, by decide +kernel, by decide +kernel⟩
theorem ck__law_frac : ckSs G d__law_frac.ns (defScope (topS 48)) d__law_frac.body (defBody (topS 48)) = true := by decide +kernel
theorem sc__law_frac_plus : FnScope d__law_frac_plus.ns d__law_frac_plus.ps (defScope (topS 49)) := ⟨rfl, rfl, rfl, by decide +kernel, rfl, by decide +kernel, by decide +kernel⟩
theorem ck__law_frac_plus : ckSs G d__law_frac_plus.ns (defScope (topS 49)) d__law_frac_plus.body (defBody (topS 49)) = true := by decide +kernel
theorem sc__law_frac_less : FnScope d__law_frac_less.ns d__law_frac_less.ps (defScope (topS 50)) := ⟨rfl, rfl, rfl, by decide +kernel, rfl, by decide +kernel, by decide +kernel⟩
theorem ck__law_frac_less : ckSs G d__law_frac_less.ns (defScope (topS 50)) d__law_frac_less.body (defBody (topS 50)) = true := by decide +kernel
theorem sc__law_frac_times : FnScope d__law_frac_times.ns d__law_frac_times.ps (defScope (topS 51)) := ⟨rfl, rfl, rfl, by decide +kernel, rfl, by decide +kernel, by decide +kernel⟩
theorem ck__law_frac_times : ckSs G d__law_frac_times.ns (defScope (topS 51)) d__law_frac_times.body (defBody (topS 51)) = true := by decide +kernel
theorem sc__law_frac_over : FnScope d__law_frac_over.ns d__law_frac_over.ps (defScope (topS 52)) := ⟨rfl, rfl, rfl, by decide +kernel, rfl, by decide +kernel, by decide +kernel⟩
theorem ck__law_frac_over : ckSs G d__law_frac_over.ns (defScope (topS 52)) d__law_frac_over.body (defBody (topS 52)) = true := by decide +kernel
theorem sc__law_frac_is_less : FnScope d__law_frac_is_less.ns d__law_frac_is_less.ps (defScope (topS 53)) := ⟨rfl, rfl, rfl, by decide +kernel, rfl, by decide +kernel, by decide +kernel⟩
theorem ck__law_frac_is_less : ckSs G d__law_frac_is_less.ns (defScope (topS 53)) d__law_frac_is_less.body (defBody (topS 53)) = true := by decide +kernel
theorem sc__law_frac_sum : FnScope d__law_frac_sum.ns d__law_frac_sum.ps (defScope (topS 54)) := ⟨rfl, rfl, rfl, by decide +kernel, rfl, by decide +kernel, by decide +kernel⟩
theorem ck__law_frac_sum : ckSs G d__law_frac_sum.ns (defScope (topS 54)) d__law_frac_sum.body (defBody (topS 54)) = true := by decide +kernel
theorem sc__law_frac_is : FnScope d__law_frac_is.ns d__law_frac_is.ps (defScope (topS 55)) := ⟨rfl, rfl, rfl, by decide +kernel, rfl, by decide +kernel, by decide +kernel⟩
theorem ck__law_frac_is : ckSs G d__law_frac_is.ns (defScope (topS 55)) d__law_frac_is.body (defBody (topS 55)) = true := by decide +kernel
theorem sc__law_frac_is_pace : FnScope d__law_frac_is_pace.ns d__law_frac_is_pace.ps (defScope (topS 56)) := ⟨rfl, rfl, rfl, by decide +kernel, rfl, by decide +kernel, by decide +kernel⟩
theorem ck__law_frac_is_pace : ckSs G d__law_frac_is_pace.ns (defScope (topS 56)) d__law_frac_is_pace.body (defBody (topS 56)) = true := by decide +kernel
theorem sc__law_frac_drawn : FnScope d__law_frac_drawn.ns d__law_frac_drawn.ps (defScope (topS 57)) := ⟨rfl, rfl, rfl, by decide +kernel, rfl, by decide +kernel, by decide +kernel⟩
theorem ck__law_frac_drawn : ckSs G d__law_frac_drawn.ns (defScope (topS 57)) d__law_frac_drawn.body (defBody (topS 57)) = true := by decide +kernel
theorem sc__law_frac_time : FnScope d__law_frac_time.ns d__law_frac_time.ps (defScope (topS 58)) := ⟨rfl, rfl, rfl, by decide +kernel, rfl, by decide +kernel, by decide +kernel⟩
theorem ck__law_frac_time : ckSs G d__law_frac_time.ns (defScope (topS 58)) d__law_frac_time.body (defBody (topS 58)) = true := by decide +kernel
theorem sc__law_event_drawn : FnScope d__law_event_drawn.ns d__law_event_drawn.ps (defScope (topS 59)) := ⟨rfl, rfl, rfl, by decide +kernel, rfl, by decide +kernel, by decide +kernel⟩
theorem ck__law_event_drawn : ckSs G d__law_event_drawn.ns (defScope (topS 59)) d__law_event_drawn.body (defBody (topS 59)) = true := by decide +kernel
theorem sc__law_event_gone : FnScope d__law_event_gone.ns d__law_event_gone.ps (defScope (topS 60)) := ⟨rfl, rfl, rfl, by decide +kernel, rfl, by decide +kernel, by decide +kernel⟩
theorem ck__law_event_gone : ckSs G d__law_event_gone.ns (defScope (topS 60)) d__law_event_gone.body (defBody (topS 60)) = true := by decide +kernel
theorem sc__law_event_more : FnScope d__law_event_more.ns d__law_event_more.ps (defScope (topS 61)) := ⟨rfl, rfl, rfl, by decide +kernel, rfl, by decide +kernel, by decide +kernel⟩
theorem ck__law_event_more : ckSs G d__law_event_more.ns (defScope (topS 61)) d__law_event_more.body (defBody (topS 61)) = true := by decide +kernel
theorem sc__law_is : FnScope d__law_is.ns d__law_is.ps (defScope (topS 62)) := ⟨rfl, rfl, rfl, by decide +kernel, rfl, by decide +kernel, by decide +kernel⟩
theorem ck__law_is : ckSs G d__law_is.ns (defScope (topS 62)) d__law_is.body (defBody (topS 62)) = true := by decide +kernel
theorem sc__law_within_ends : FnScope d__law_within_ends.ns d__law_within_ends.ps (defScope (topS 63)) := ⟨rfl, rfl, rfl, by decide +kernel, rfl, by decide +kernel, by decide +kernel⟩
theorem ck__law_within_ends : ckSs G d__law_within_ends.ns (defScope (topS 63)) d__law_within_ends.body (defBody (topS 63)) = true := by decide +kernel
theorem sc__law_within_pace : FnScope d__law_within_pace.ns d__law_within_pace.ps (defScope (topS 64)) := ⟨rfl, rfl, rfl, by decide +kernel, rfl, by decide +kernel, by decide +kernel⟩
theorem ck__law_within_pace : ckSs G d__law_within_pace.ns (defScope (topS 64)) d__law_within_pace.body (defBody (topS 64)) = true := by decide +kernel
theorem sc__law_within_word : FnScope d__law_within_word.ns d__law_within_word.ps (defScope (topS 65)) := ⟨rfl, rfl, rfl, by decide +kernel, rfl, by decide +kernel, by decide +kernel⟩
theorem ck__law_within_word : ckSs G d__law_within_word.ns (defScope (topS 65)) d__law_within_word.body (defBody (topS 65)) = true := by decide +kernel
theorem sc__law_within_leads : FnScope d__law_within_leads.ns d__law_within_leads.ps (defScope (topS 66)) := ⟨rfl, rfl, rfl, by decide +kernel, rfl, by decide +kernel, by decide +kernel⟩
theorem ck__law_within_leads : ckSs G d__law_within_leads.ns (defScope (topS 66)) d__law_within_leads.body (defBody (topS 66)) = true := by decide +kernel
theorem sc__law_within_least : FnScope d__law_within_least.ns d__law_within_least.ps (defScope (topS 67)) := ⟨rfl, rfl, rfl, by decide +kernel, rfl, by decide +kernel, by decide +kernel⟩
theorem ck__law_within_least : ckSs G d__law_within_least.ns (defScope (topS 67)) d__law_within_least.body (defBody (topS 67)) = true := by decide +kernel
theorem sc__law_root : FnScope d__law_root.ns d__law_root.ps (defScope (topS 68)) := ⟨rfl, rfl, rfl, by decide +kernel, rfl, by decide +kernel, by decide +kernel⟩
theorem ck__law_root : ckSs G d__law_root.ns (defScope (topS 68)) d__law_root.body (defBody (topS 68)) = true := by decide +kernel
theorem sc__law_wished : FnScope d__law_wished.ns d__law_wished.ps (defScope (topS 69)) := ⟨rfl, rfl, rfl, by decide +kernel, rfl, by decide +kernel, by decide +kernel⟩
theorem ck__law_wished : ckSs G d__law_wished.ns (defScope (topS 69)) d__law_wished.body (defBody (topS 69)) = true := by decide +kernel
theorem sc__law_is_wish_right : FnScope d__law_is_wish_right.ns d__law_is_wish_right.ps (defScope (topS 70)) := ⟨rfl, rfl, rfl, by decide +kernel, rfl, by decide +kernel, by decide +kernel⟩
theorem ck__law_is_wish_right : ckSs G d__law_is_wish_right.ns (defScope (topS 70)) d__law_is_wish_right.body (defBody (topS 70)) = true := by decide +kernel
theorem sc__law_right : FnScope d__law_right.ns d__law_right.ps (defScope (topS 71)) := ⟨rfl, rfl, rfl, by decide +kernel, rfl, by decide +kernel, by decide +kernel⟩
theorem ck__law_right : ckSs G d__law_right.ns (defScope (topS 71)) d__law_right.body (defBody (topS 71)) = true := by decide +kernel
theorem sc_law : FnScope d_law.ns d_law.ps (defScope (topS 72)) := ⟨rfl, rfl, rfl, by decide +kernel, rfl, by decide +kernel, by decide +kernel⟩
theorem ck_law : ckSs G d_law.ns (defScope (topS 72)) d_law.body (defBody (topS 72)) = true := by decide +kernel
def subS (i j : Nat) : Stmt := match topS i with | .ClassDef _ _ _ body _ _ _ _ _ _ _ => body.getD j (.Pass ⟨0, 0, 0, 0⟩) | s => s
theorem da_is_plain_integer {K : PySem.W.Frag} {h : Heap} {mg : PySem.Str → Option Value} (X : K.In h) (Gm : h.Ns mainGlobals mg) (e : ∃ fa, FAt K "is_plain_integer" (topS 10) fa) : ∃ fa fd dd st, DefAt K mg G T "is_plain_integer" 1 ([] : List (Nat × List PySem.Str × List Nat)) fa fd dd st :=
  da_of (dd := d_is_plain_integer) X Gm e (by kernel_rfl) rfl sc_is_plain_integer ck_is_plain_integer rfl (fun _ _ _ _ _ _ us hl => match us, hl with | [_], _ => rfl) (fun _ z => nomatch z)
theorem da_is_fraction {K : PySem.W.Frag} {h : Heap} {mg : PySem.Str → Option Value} (X : K.In h) (Gm : h.Ns mainGlobals mg) (e : ∃ fa, FAt K "is_fraction" (topS 11) fa) : ∃ fa fd dd st, DefAt K mg G T "is_fraction" 1 ([] : List (Nat × List PySem.Str × List Nat)) fa fd dd st :=
  da_of (dd := d_is_fraction) X Gm e (by kernel_rfl) rfl sc_is_fraction ck_is_fraction rfl (fun _ _ _ _ _ _ us hl => match us, hl with | [_], _ => rfl) (fun _ z => nomatch z)
theorem da_is_above_zero {K : PySem.W.Frag} {h : Heap} {mg : PySem.Str → Option Value} (X : K.In h) (Gm : h.Ns mainGlobals mg) (e : ∃ fa, FAt K "is_above_zero" (topS 12) fa) : ∃ fa fd dd st, DefAt K mg G T "is_above_zero" 1 ([] : List (Nat × List PySem.Str × List Nat)) fa fd dd st :=
  da_of (dd := d_is_above_zero) X Gm e (by kernel_rfl) rfl sc_is_above_zero ck_is_above_zero rfl (fun _ _ _ _ _ _ us hl => match us, hl with | [_], _ => rfl) (fun _ z => nomatch z)
theorem da_is_time {K : PySem.W.Frag} {h : Heap} {mg : PySem.Str → Option Value} (X : K.In h) (Gm : h.Ns mainGlobals mg) (e : ∃ fa, FAt K "is_time" (topS 13) fa) : ∃ fa fd dd st, DefAt K mg G T "is_time" 1 ([] : List (Nat × List PySem.Str × List Nat)) fa fd dd st :=
  da_of (dd := d_is_time) X Gm e (by kernel_rfl) rfl sc_is_time ck_is_time rfl (fun _ _ _ _ _ _ us hl => match us, hl with | [_], _ => rfl) (fun _ z => nomatch z)
theorem da_in_least_terms {K : PySem.W.Frag} {h : Heap} {mg : PySem.Str → Option Value} (X : K.In h) (Gm : h.Ns mainGlobals mg) (e : ∃ fa, FAt K "in_least_terms" (topS 14) fa) : ∃ fa fd dd st, DefAt K mg G T "in_least_terms" 2 ([] : List (Nat × List PySem.Str × List Nat)) fa fd dd st :=
  da_of (dd := d_in_least_terms) X Gm e (by kernel_rfl) rfl sc_in_least_terms ck_in_least_terms rfl (fun _ _ _ _ _ _ us hl => match us, hl with | [_, _], _ => rfl) (fun _ z => nomatch z)
theorem da_added {K : PySem.W.Frag} {h : Heap} {mg : PySem.Str → Option Value} (X : K.In h) (Gm : h.Ns mainGlobals mg) (e : ∃ fa, FAt K "added" (topS 15) fa) : ∃ fa fd dd st, DefAt K mg G T "added" 2 ([] : List (Nat × List PySem.Str × List Nat)) fa fd dd st :=
  da_of (dd := d_added) X Gm e (by kernel_rfl) rfl sc_added ck_added rfl (fun _ _ _ _ _ _ us hl => match us, hl with | [_, _], _ => rfl) (fun _ z => nomatch z)
theorem da_subtracted {K : PySem.W.Frag} {h : Heap} {mg : PySem.Str → Option Value} (X : K.In h) (Gm : h.Ns mainGlobals mg) (e : ∃ fa, FAt K "subtracted" (topS 16) fa) : ∃ fa fd dd st, DefAt K mg G T "subtracted" 2 ([] : List (Nat × List PySem.Str × List Nat)) fa fd dd st :=
  da_of (dd := d_subtracted) X Gm e (by kernel_rfl) rfl sc_subtracted ck_subtracted rfl (fun _ _ _ _ _ _ us hl => match us, hl with | [_, _], _ => rfl) (fun _ z => nomatch z)
theorem da_multiplied {K : PySem.W.Frag} {h : Heap} {mg : PySem.Str → Option Value} (X : K.In h) (Gm : h.Ns mainGlobals mg) (e : ∃ fa, FAt K "multiplied" (topS 17) fa) : ∃ fa fd dd st, DefAt K mg G T "multiplied" 2 ([] : List (Nat × List PySem.Str × List Nat)) fa fd dd st :=
  da_of (dd := d_multiplied) X Gm e (by kernel_rfl) rfl sc_multiplied ck_multiplied rfl (fun _ _ _ _ _ _ us hl => match us, hl with | [_, _], _ => rfl) (fun _ z => nomatch z)
theorem da_divided {K : PySem.W.Frag} {h : Heap} {mg : PySem.Str → Option Value} (X : K.In h) (Gm : h.Ns mainGlobals mg) (e : ∃ fa, FAt K "divided" (topS 18) fa) : ∃ fa fd dd st, DefAt K mg G T "divided" 2 ([] : List (Nat × List PySem.Str × List Nat)) fa fd dd st :=
  da_of (dd := d_divided) X Gm e (by kernel_rfl) rfl sc_divided ck_divided rfl (fun _ _ _ _ _ _ us hl => match us, hl with | [_, _], _ => rfl) (fun _ z => nomatch z)
theorem da_is_less {K : PySem.W.Frag} {h : Heap} {mg : PySem.Str → Option Value} (X : K.In h) (Gm : h.Ns mainGlobals mg) (e : ∃ fa, FAt K "is_less" (topS 19) fa) : ∃ fa fd dd st, DefAt K mg G T "is_less" 2 ([] : List (Nat × List PySem.Str × List Nat)) fa fd dd st :=
  da_of (dd := d_is_less) X Gm e (by kernel_rfl) rfl sc_is_less ck_is_less rfl (fun _ _ _ _ _ _ us hl => match us, hl with | [_, _], _ => rfl) (fun _ z => nomatch z)
theorem da_inverse {K : PySem.W.Frag} {h : Heap} {mg : PySem.Str → Option Value} (X : K.In h) (Gm : h.Ns mainGlobals mg) (e : ∃ fa, FAt K "inverse" (topS 20) fa) : ∃ fa fd dd st, DefAt K mg G T "inverse" 1 ([] : List (Nat × List PySem.Str × List Nat)) fa fd dd st :=
  da_of (dd := d_inverse) X Gm e (by kernel_rfl) rfl sc_inverse ck_inverse rfl (fun _ _ _ _ _ _ us hl => match us, hl with | [_], _ => rfl) (fun _ z => nomatch z)
theorem da_is_same {K : PySem.W.Frag} {h : Heap} {mg : PySem.Str → Option Value} (X : K.In h) (Gm : h.Ns mainGlobals mg) (e : ∃ fa, FAt K "is_same" (topS 21) fa) : ∃ fa fd dd st, DefAt K mg G T "is_same" 2 ([] : List (Nat × List PySem.Str × List Nat)) fa fd dd st :=
  da_of (dd := d_is_same) X Gm e (by kernel_rfl) rfl sc_is_same ck_is_same rfl (fun _ _ _ _ _ _ us hl => match us, hl with | [_, _], _ => rfl) (fun _ z => nomatch z)
theorem da_is_event {K : PySem.W.Frag} {h : Heap} {mg : PySem.Str → Option Value} (X : K.In h) (Gm : h.Ns mainGlobals mg) (e : ∃ fa, FAt K "is_event" (topS 23) fa) : ∃ fa fd dd st, DefAt K mg G T "is_event" 1 ([] : List (Nat × List PySem.Str × List Nat)) fa fd dd st :=
  da_of (dd := d_is_event) X Gm e (by kernel_rfl) rfl sc_is_event ck_is_event rfl (fun _ _ _ _ _ _ us hl => match us, hl with | [_], _ => rfl) (fun _ z => nomatch z)
theorem da_check_event {K : PySem.W.Frag} {h : Heap} {mg : PySem.Str → Option Value} (X : K.In h) (Gm : h.Ns mainGlobals mg) (e : ∃ fa, FAt K "check_event" (topS 24) fa) : ∃ fa fd dd st, DefAt K mg G T "check_event" 1 ([] : List (Nat × List PySem.Str × List Nat)) fa fd dd st :=
  da_of (dd := d_check_event) X Gm e (by kernel_rfl) rfl sc_check_event ck_check_event rfl (fun _ _ _ _ _ _ us hl => match us, hl with | [_], _ => rfl) (fun _ z => nomatch z)
theorem da_growth {K : PySem.W.Frag} {h : Heap} {mg : PySem.Str → Option Value} (X : K.In h) (Gm : h.Ns mainGlobals mg) (e : ∃ fa, FAt K "growth" (topS 25) fa) : ∃ fa fd dd st, DefAt K mg G T "growth" 2 ([] : List (Nat × List PySem.Str × List Nat)) fa fd dd st :=
  da_of (dd := d_growth) X Gm e (by kernel_rfl) rfl sc_growth ck_growth rfl (fun _ _ _ _ _ _ us hl => match us, hl with | [_, _], _ => rfl) (fun _ z => nomatch z)
theorem da_flown {K : PySem.W.Frag} {h : Heap} {mg : PySem.Str → Option Value} (X : K.In h) (Gm : h.Ns mainGlobals mg) (e : ∃ fa, FAt K "flown" (topS 26) fa) : ∃ fa fd dd st, DefAt K mg G T "flown" 3 ([] : List (Nat × List PySem.Str × List Nat)) fa fd dd st :=
  da_of (dd := d_flown) X Gm e (by kernel_rfl) rfl sc_flown ck_flown rfl (fun _ _ _ _ _ _ us hl => match us, hl with | [_, _, _], _ => rfl) (fun _ z => nomatch z)
theorem da_check_most {K : PySem.W.Frag} {h : Heap} {mg : PySem.Str → Option Value} (X : K.In h) (Gm : h.Ns mainGlobals mg) (e : ∃ fa, FAt K "check_most" (topS 28) fa) : ∃ fa fd dd st, DefAt K mg G T "check_most" 1 ([] : List (Nat × List PySem.Str × List Nat)) fa fd dd st :=
  da_of (dd := d_check_most) X Gm e (by kernel_rfl) rfl sc_check_most ck_check_most rfl (fun _ _ _ _ _ _ us hl => match us, hl with | [_], _ => rfl) (fun _ z => nomatch z)
theorem da_check_own_time {K : PySem.W.Frag} {h : Heap} {mg : PySem.Str → Option Value} (X : K.In h) (Gm : h.Ns mainGlobals mg) (e : ∃ fa, FAt K "check_own_time" (topS 29) fa) : ∃ fa fd dd st, DefAt K mg G T "check_own_time" 1 ([] : List (Nat × List PySem.Str × List Nat)) fa fd dd st :=
  da_of (dd := d_check_own_time) X Gm e (by kernel_rfl) rfl sc_check_own_time ck_check_own_time rfl (fun _ _ _ _ _ _ us hl => match us, hl with | [_], _ => rfl) (fun _ z => nomatch z)
theorem da_reach {K : PySem.W.Frag} {h : Heap} {mg : PySem.Str → Option Value} (X : K.In h) (Gm : h.Ns mainGlobals mg) (e : ∃ fa, FAt K "reach" (topS 30) fa) : ∃ fa fd dd st, DefAt K mg G T "reach" 3 ([] : List (Nat × List PySem.Str × List Nat)) fa fd dd st :=
  da_of (dd := d_reach) X Gm e (by kernel_rfl) rfl sc_reach ck_reach rfl (fun _ _ _ _ _ _ us hl => match us, hl with | [_, _, _], _ => rfl) (fun _ z => nomatch z)
theorem da_to_and_fro {K : PySem.W.Frag} {h : Heap} {mg : PySem.Str → Option Value} (X : K.In h) (Gm : h.Ns mainGlobals mg) (e : ∃ fa, FAt K "to_and_fro" (topS 31) fa) : ∃ fa fd dd st, DefAt K mg G T "to_and_fro" 3 ([] : List (Nat × List PySem.Str × List Nat)) fa fd dd st :=
  da_of (dd := d_to_and_fro) X Gm e (by kernel_rfl) rfl sc_to_and_fro ck_to_and_fro rfl (fun _ _ _ _ _ _ us hl => match us, hl with | [_, _, _], _ => rfl) (fun _ z => nomatch z)
theorem da_flown_pieces {K : PySem.W.Frag} {h : Heap} {mg : PySem.Str → Option Value} (X : K.In h) (Gm : h.Ns mainGlobals mg) (e : ∃ fa, FAt K "flown_pieces" (topS 32) fa) : ∃ fa fd dd st, DefAt K mg G T "flown_pieces" 1 ([] : List (Nat × List PySem.Str × List Nat)) fa fd dd st :=
  da_of (dd := d_flown_pieces) X Gm e (by kernel_rfl) rfl sc_flown_pieces ck_flown_pieces rfl (fun _ _ _ _ _ _ us hl => match us, hl with | [_], _ => rfl) (fun _ z => nomatch z)
theorem da_is_plan {K : PySem.W.Frag} {h : Heap} {mg : PySem.Str → Option Value} (X : K.In h) (Gm : h.Ns mainGlobals mg) (e : ∃ fa, FAt K "is_plan" (topS 33) fa) : ∃ fa fd dd st, DefAt K mg G T "is_plan" 2 ([] : List (Nat × List PySem.Str × List Nat)) fa fd dd st :=
  da_of (dd := d_is_plan) X Gm e (by kernel_rfl) rfl sc_is_plan ck_is_plan rfl (fun _ _ _ _ _ _ us hl => match us, hl with | [_, _], _ => rfl) (fun _ z => nomatch z)
theorem da_is_piece {K : PySem.W.Frag} {h : Heap} {mg : PySem.Str → Option Value} (X : K.In h) (Gm : h.Ns mainGlobals mg) (e : ∃ fa, FAt K "is_piece" (topS 34) fa) : ∃ fa fd dd st, DefAt K mg G T "is_piece" 2 ([] : List (Nat × List PySem.Str × List Nat)) fa fd dd st :=
  da_of (dd := d_is_piece) X Gm e (by kernel_rfl) rfl sc_is_piece ck_is_piece rfl (fun _ _ _ _ _ _ us hl => match us, hl with | [_, _], _ => rfl) (fun _ z => nomatch z)
theorem da_is_within {K : PySem.W.Frag} {h : Heap} {mg : PySem.Str → Option Value} (X : K.In h) (Gm : h.Ns mainGlobals mg) (e : ∃ fa, FAt K "is_within" (topS 35) fa) : ∃ fa fd dd st, DefAt K mg G T "is_within" 2 ([] : List (Nat × List PySem.Str × List Nat)) fa fd dd st :=
  da_of (dd := d_is_within) X Gm e (by kernel_rfl) rfl sc_is_within ck_is_within rfl (fun _ _ _ _ _ _ us hl => match us, hl with | [_, _], _ => rfl) (fun _ z => nomatch z)
theorem da_leads {K : PySem.W.Frag} {h : Heap} {mg : PySem.Str → Option Value} (X : K.In h) (Gm : h.Ns mainGlobals mg) (e : ∃ fa, FAt K "leads" (topS 36) fa) : ∃ fa fd dd st, DefAt K mg G T "leads" 3 ([] : List (Nat × List PySem.Str × List Nat)) fa fd dd st :=
  da_of (dd := d_leads) X Gm e (by kernel_rfl) rfl sc_leads ck_leads rfl (fun _ _ _ _ _ _ us hl => match us, hl with | [_, _, _], _ => rfl) (fun _ z => nomatch z)
theorem da_check_plan {K : PySem.W.Frag} {h : Heap} {mg : PySem.Str → Option Value} (X : K.In h) (Gm : h.Ns mainGlobals mg) (e : ∃ fa, FAt K "check_plan" (topS 37) fa) : ∃ fa fd dd st, DefAt K mg G T "check_plan" 3 ([] : List (Nat × List PySem.Str × List Nat)) fa fd dd st :=
  da_of (dd := d_check_plan) X Gm e (by kernel_rfl) rfl sc_check_plan ck_check_plan rfl (fun _ _ _ _ _ _ us hl => match us, hl with | [_, _, _], _ => rfl) (fun _ z => nomatch z)
theorem da_least_own {K : PySem.W.Frag} {h : Heap} {mg : PySem.Str → Option Value} (X : K.In h) (Gm : h.Ns mainGlobals mg) (e : ∃ fa, FAt K "least_own" (topS 38) fa) : ∃ fa fd dd st, DefAt K mg G T "least_own" 3 ([] : List (Nat × List PySem.Str × List Nat)) fa fd dd st :=
  da_of (dd := d_least_own) X Gm e (by kernel_rfl) rfl sc_least_own ck_least_own rfl (fun _ _ _ _ _ _ us hl => match us, hl with | [_, _, _], _ => rfl) (fun _ z => nomatch z)
theorem da_own_flight {K : PySem.W.Frag} {h : Heap} {mg : PySem.Str → Option Value} (X : K.In h) (Gm : h.Ns mainGlobals mg) (e : ∃ fa, FAt K "own_flight" (topS 39) fa) : ∃ fa fd dd st, DefAt K mg G T "own_flight" 4 ([] : List (Nat × List PySem.Str × List Nat)) fa fd dd st :=
  da_of (dd := d_own_flight) X Gm e (by kernel_rfl) rfl sc_own_flight ck_own_flight rfl (fun _ _ _ _ _ _ us hl => match us, hl with | [_, _, _, _], _ => rfl) (fun _ z => nomatch z)
theorem da_then_straight {K : PySem.W.Frag} {h : Heap} {mg : PySem.Str → Option Value} (X : K.In h) (Gm : h.Ns mainGlobals mg) (e : ∃ fa, FAt K "then_straight" (topS 40) fa) : ∃ fa fd dd st, DefAt K mg G T "then_straight" 4 ([] : List (Nat × List PySem.Str × List Nat)) fa fd dd st :=
  da_of (dd := d_then_straight) X Gm e (by kernel_rfl) rfl sc_then_straight ck_then_straight rfl (fun _ _ _ _ _ _ us hl => match us, hl with | [_, _, _, _], _ => rfl) (fun _ z => nomatch z)
theorem da_shows_own_flight {K : PySem.W.Frag} {h : Heap} {mg : PySem.Str → Option Value} (X : K.In h) (Gm : h.Ns mainGlobals mg) (e : ∃ fa, FAt K "shows_own_flight" (topS 41) fa) : ∃ fa fd dd st, DefAt K mg G T "shows_own_flight" 5 ([] : List (Nat × List PySem.Str × List Nat)) fa fd dd st :=
  da_of (dd := d_shows_own_flight) X Gm e (by kernel_rfl) rfl sc_shows_own_flight ck_shows_own_flight rfl (fun _ _ _ _ _ _ us hl => match us, hl with | [_, _, _, _, _], _ => rfl) (fun _ z => nomatch z)
theorem da__law_pot {K : PySem.W.Frag} {h : Heap} {mg : PySem.Str → Option Value} (X : K.In h) (Gm : h.Ns mainGlobals mg) (e : ∃ fa, FAt K "_law_pot" (topS 43) fa) : ∃ fa fd dd st, DefAt K mg G T "_law_pot" 2 ([] : List (Nat × List PySem.Str × List Nat)) fa fd dd st :=
  da_of (dd := d__law_pot) X Gm e (by kernel_rfl) rfl sc__law_pot ck__law_pot rfl (fun _ _ _ _ _ _ us hl => match us, hl with | [_, _], _ => rfl) (fun _ z => nomatch z)
theorem da__law_take {K : PySem.W.Frag} {h : Heap} {mg : PySem.Str → Option Value} (X : K.In h) (Gm : h.Ns mainGlobals mg) (e : ∃ fa, FAt K "_law_take" (topS 44) fa) : ∃ fa fd dd st, DefAt K mg G T "_law_take" 2 ([] : List (Nat × List PySem.Str × List Nat)) fa fd dd st :=
  da_of (dd := d__law_take) X Gm e (by kernel_rfl) rfl sc__law_take ck__law_take rfl (fun _ _ _ _ _ _ us hl => match us, hl with | [_, _], _ => rfl) (fun _ z => nomatch z)
theorem da__law_of {K : PySem.W.Frag} {h : Heap} {mg : PySem.Str → Option Value} (X : K.In h) (Gm : h.Ns mainGlobals mg) (e : ∃ fa, FAt K "_law_of" (topS 45) fa) : ∃ fa fd dd st, DefAt K mg G T "_law_of" 2 ([] : List (Nat × List PySem.Str × List Nat)) fa fd dd st :=
  da_of (dd := d__law_of) X Gm e (by kernel_rfl) rfl sc__law_of ck__law_of rfl (fun _ _ _ _ _ _ us hl => match us, hl with | [_, _], _ => rfl) (fun _ z => nomatch z)
theorem da__law_cells {K : PySem.W.Frag} {h : Heap} {mg : PySem.Str → Option Value} (X : K.In h) (Gm : h.Ns mainGlobals mg) (e : ∃ fa, FAt K "_law_cells" (topS 46) fa) : ∃ fa fd dd st, DefAt K mg G T "_law_cells" 2 ([] : List (Nat × List PySem.Str × List Nat)) fa fd dd st :=
  da_of (dd := d__law_cells) X Gm e (by kernel_rfl) rfl sc__law_cells ck__law_cells rfl (fun _ _ _ _ _ _ us hl => match us, hl with | [_, _], _ => rfl) (fun _ z => nomatch z)
theorem da__law_frac_common {K : PySem.W.Frag} {h : Heap} {mg : PySem.Str → Option Value} (X : K.In h) (Gm : h.Ns mainGlobals mg) (e : ∃ fa, FAt K "_law_frac_common" (topS 47) fa) : ∃ fa fd dd st, DefAt K mg G T "_law_frac_common" 2 ([] : List (Nat × List PySem.Str × List Nat)) fa fd dd st :=
  da_of (dd := d__law_frac_common) X Gm e (by kernel_rfl) rfl sc__law_frac_common ck__law_frac_common rfl (fun _ _ _ _ _ _ us hl => match us, hl with | [_, _], _ => rfl) (fun _ z => nomatch z)
theorem da__law_frac {K : PySem.W.Frag} {h : Heap} {mg : PySem.Str → Option Value} (X : K.In h) (Gm : h.Ns mainGlobals mg) (e : ∃ fa, FAt K "_law_frac" (topS 48) fa) : ∃ fa fd dd st, DefAt K mg G T "_law_frac" 2 ([] : List (Nat × List PySem.Str × List Nat)) fa fd dd st :=
  da_of (dd := d__law_frac) X Gm e (by kernel_rfl) rfl sc__law_frac ck__law_frac rfl (fun _ _ _ _ _ _ us hl => match us, hl with | [_, _], _ => rfl) (fun _ z => nomatch z)
theorem da__law_frac_plus {K : PySem.W.Frag} {h : Heap} {mg : PySem.Str → Option Value} (X : K.In h) (Gm : h.Ns mainGlobals mg) (e : ∃ fa, FAt K "_law_frac_plus" (topS 49) fa) : ∃ fa fd dd st, DefAt K mg G T "_law_frac_plus" 2 ([] : List (Nat × List PySem.Str × List Nat)) fa fd dd st :=
  da_of (dd := d__law_frac_plus) X Gm e (by kernel_rfl) rfl sc__law_frac_plus ck__law_frac_plus rfl (fun _ _ _ _ _ _ us hl => match us, hl with | [_, _], _ => rfl) (fun _ z => nomatch z)
theorem da__law_frac_less {K : PySem.W.Frag} {h : Heap} {mg : PySem.Str → Option Value} (X : K.In h) (Gm : h.Ns mainGlobals mg) (e : ∃ fa, FAt K "_law_frac_less" (topS 50) fa) : ∃ fa fd dd st, DefAt K mg G T "_law_frac_less" 2 ([] : List (Nat × List PySem.Str × List Nat)) fa fd dd st :=
  da_of (dd := d__law_frac_less) X Gm e (by kernel_rfl) rfl sc__law_frac_less ck__law_frac_less rfl (fun _ _ _ _ _ _ us hl => match us, hl with | [_, _], _ => rfl) (fun _ z => nomatch z)
theorem da__law_frac_times {K : PySem.W.Frag} {h : Heap} {mg : PySem.Str → Option Value} (X : K.In h) (Gm : h.Ns mainGlobals mg) (e : ∃ fa, FAt K "_law_frac_times" (topS 51) fa) : ∃ fa fd dd st, DefAt K mg G T "_law_frac_times" 2 ([] : List (Nat × List PySem.Str × List Nat)) fa fd dd st :=
  da_of (dd := d__law_frac_times) X Gm e (by kernel_rfl) rfl sc__law_frac_times ck__law_frac_times rfl (fun _ _ _ _ _ _ us hl => match us, hl with | [_, _], _ => rfl) (fun _ z => nomatch z)
theorem da__law_frac_over {K : PySem.W.Frag} {h : Heap} {mg : PySem.Str → Option Value} (X : K.In h) (Gm : h.Ns mainGlobals mg) (e : ∃ fa, FAt K "_law_frac_over" (topS 52) fa) : ∃ fa fd dd st, DefAt K mg G T "_law_frac_over" 2 ([] : List (Nat × List PySem.Str × List Nat)) fa fd dd st :=
  da_of (dd := d__law_frac_over) X Gm e (by kernel_rfl) rfl sc__law_frac_over ck__law_frac_over rfl (fun _ _ _ _ _ _ us hl => match us, hl with | [_, _], _ => rfl) (fun _ z => nomatch z)
theorem da__law_frac_is_less {K : PySem.W.Frag} {h : Heap} {mg : PySem.Str → Option Value} (X : K.In h) (Gm : h.Ns mainGlobals mg) (e : ∃ fa, FAt K "_law_frac_is_less" (topS 53) fa) : ∃ fa fd dd st, DefAt K mg G T "_law_frac_is_less" 2 ([] : List (Nat × List PySem.Str × List Nat)) fa fd dd st :=
  da_of (dd := d__law_frac_is_less) X Gm e (by kernel_rfl) rfl sc__law_frac_is_less ck__law_frac_is_less rfl (fun _ _ _ _ _ _ us hl => match us, hl with | [_, _], _ => rfl) (fun _ z => nomatch z)
theorem da__law_frac_sum {K : PySem.W.Frag} {h : Heap} {mg : PySem.Str → Option Value} (X : K.In h) (Gm : h.Ns mainGlobals mg) (e : ∃ fa, FAt K "_law_frac_sum" (topS 54) fa) : ∃ fa fd dd st, DefAt K mg G T "_law_frac_sum" 1 ([] : List (Nat × List PySem.Str × List Nat)) fa fd dd st :=
  da_of (dd := d__law_frac_sum) X Gm e (by kernel_rfl) rfl sc__law_frac_sum ck__law_frac_sum rfl (fun _ _ _ _ _ _ us hl => match us, hl with | [_], _ => rfl) (fun _ z => nomatch z)
theorem da__law_frac_is {K : PySem.W.Frag} {h : Heap} {mg : PySem.Str → Option Value} (X : K.In h) (Gm : h.Ns mainGlobals mg) (e : ∃ fa, FAt K "_law_frac_is" (topS 55) fa) : ∃ fa fd dd st, DefAt K mg G T "_law_frac_is" 1 ([] : List (Nat × List PySem.Str × List Nat)) fa fd dd st :=
  da_of (dd := d__law_frac_is) X Gm e (by kernel_rfl) rfl sc__law_frac_is ck__law_frac_is rfl (fun _ _ _ _ _ _ us hl => match us, hl with | [_], _ => rfl) (fun _ z => nomatch z)
theorem da__law_frac_is_pace {K : PySem.W.Frag} {h : Heap} {mg : PySem.Str → Option Value} (X : K.In h) (Gm : h.Ns mainGlobals mg) (e : ∃ fa, FAt K "_law_frac_is_pace" (topS 56) fa) : ∃ fa fd dd st, DefAt K mg G T "_law_frac_is_pace" 1 ([] : List (Nat × List PySem.Str × List Nat)) fa fd dd st :=
  da_of (dd := d__law_frac_is_pace) X Gm e (by kernel_rfl) rfl sc__law_frac_is_pace ck__law_frac_is_pace rfl (fun _ _ _ _ _ _ us hl => match us, hl with | [_], _ => rfl) (fun _ z => nomatch z)
theorem da__law_frac_drawn {K : PySem.W.Frag} {h : Heap} {mg : PySem.Str → Option Value} (X : K.In h) (Gm : h.Ns mainGlobals mg) (e : ∃ fa, FAt K "_law_frac_drawn" (topS 57) fa) : ∃ fa fd dd st, DefAt K mg G T "_law_frac_drawn" 3 ([] : List (Nat × List PySem.Str × List Nat)) fa fd dd st :=
  da_of (dd := d__law_frac_drawn) X Gm e (by kernel_rfl) rfl sc__law_frac_drawn ck__law_frac_drawn rfl (fun _ _ _ _ _ _ us hl => match us, hl with | [_, _, _], _ => rfl) (fun _ z => nomatch z)
theorem da__law_frac_time {K : PySem.W.Frag} {h : Heap} {mg : PySem.Str → Option Value} (X : K.In h) (Gm : h.Ns mainGlobals mg) (e : ∃ fa, FAt K "_law_frac_time" (topS 58) fa) : ∃ fa fd dd st, DefAt K mg G T "_law_frac_time" 1 ([] : List (Nat × List PySem.Str × List Nat)) fa fd dd st :=
  da_of (dd := d__law_frac_time) X Gm e (by kernel_rfl) rfl sc__law_frac_time ck__law_frac_time rfl (fun _ _ _ _ _ _ us hl => match us, hl with | [_], _ => rfl) (fun _ z => nomatch z)
theorem da__law_event_drawn {K : PySem.W.Frag} {h : Heap} {mg : PySem.Str → Option Value} (X : K.In h) (Gm : h.Ns mainGlobals mg) (e : ∃ fa, FAt K "_law_event_drawn" (topS 59) fa) : ∃ fa fd dd st, DefAt K mg G T "_law_event_drawn" 1 ([] : List (Nat × List PySem.Str × List Nat)) fa fd dd st :=
  da_of (dd := d__law_event_drawn) X Gm e (by kernel_rfl) rfl sc__law_event_drawn ck__law_event_drawn rfl (fun _ _ _ _ _ _ us hl => match us, hl with | [_], _ => rfl) (fun _ z => nomatch z)
theorem da__law_event_gone {K : PySem.W.Frag} {h : Heap} {mg : PySem.Str → Option Value} (X : K.In h) (Gm : h.Ns mainGlobals mg) (e : ∃ fa, FAt K "_law_event_gone" (topS 60) fa) : ∃ fa fd dd st, DefAt K mg G T "_law_event_gone" 3 ([] : List (Nat × List PySem.Str × List Nat)) fa fd dd st :=
  da_of (dd := d__law_event_gone) X Gm e (by kernel_rfl) rfl sc__law_event_gone ck__law_event_gone rfl (fun _ _ _ _ _ _ us hl => match us, hl with | [_, _, _], _ => rfl) (fun _ z => nomatch z)
theorem da__law_event_more {K : PySem.W.Frag} {h : Heap} {mg : PySem.Str → Option Value} (X : K.In h) (Gm : h.Ns mainGlobals mg) (e : ∃ fa, FAt K "_law_event_more" (topS 61) fa) : ∃ fa fd dd st, DefAt K mg G T "_law_event_more" 2 ([] : List (Nat × List PySem.Str × List Nat)) fa fd dd st :=
  da_of (dd := d__law_event_more) X Gm e (by kernel_rfl) rfl sc__law_event_more ck__law_event_more rfl (fun _ _ _ _ _ _ us hl => match us, hl with | [_, _], _ => rfl) (fun _ z => nomatch z)
theorem da__law_is {K : PySem.W.Frag} {h : Heap} {mg : PySem.Str → Option Value} (X : K.In h) (Gm : h.Ns mainGlobals mg) (e : ∃ fa, FAt K "_law_is" (topS 62) fa) : ∃ fa fd dd st, DefAt K mg G T "_law_is" 2 ([] : List (Nat × List PySem.Str × List Nat)) fa fd dd st :=
  da_of (dd := d__law_is) X Gm e (by kernel_rfl) rfl sc__law_is ck__law_is rfl (fun _ _ _ _ _ _ us hl => match us, hl with | [_, _], _ => rfl) (fun _ z => nomatch z)
theorem da__law_within_ends {K : PySem.W.Frag} {h : Heap} {mg : PySem.Str → Option Value} (X : K.In h) (Gm : h.Ns mainGlobals mg) (e : ∃ fa, FAt K "_law_within_ends" (topS 63) fa) : ∃ fa fd dd st, DefAt K mg G T "_law_within_ends" 1 ([] : List (Nat × List PySem.Str × List Nat)) fa fd dd st :=
  da_of (dd := d__law_within_ends) X Gm e (by kernel_rfl) rfl sc__law_within_ends ck__law_within_ends rfl (fun _ _ _ _ _ _ us hl => match us, hl with | [_], _ => rfl) (fun _ z => nomatch z)
theorem da__law_within_pace {K : PySem.W.Frag} {h : Heap} {mg : PySem.Str → Option Value} (X : K.In h) (Gm : h.Ns mainGlobals mg) (e : ∃ fa, FAt K "_law_within_pace" (topS 64) fa) : ∃ fa fd dd st, DefAt K mg G T "_law_within_pace" 2 ([] : List (Nat × List PySem.Str × List Nat)) fa fd dd st :=
  da_of (dd := d__law_within_pace) X Gm e (by kernel_rfl) rfl sc__law_within_pace ck__law_within_pace rfl (fun _ _ _ _ _ _ us hl => match us, hl with | [_, _], _ => rfl) (fun _ z => nomatch z)
theorem da__law_within_word {K : PySem.W.Frag} {h : Heap} {mg : PySem.Str → Option Value} (X : K.In h) (Gm : h.Ns mainGlobals mg) (e : ∃ fa, FAt K "_law_within_word" (topS 65) fa) : ∃ fa fd dd st, DefAt K mg G T "_law_within_word" 3 ([] : List (Nat × List PySem.Str × List Nat)) fa fd dd st :=
  da_of (dd := d__law_within_word) X Gm e (by kernel_rfl) rfl sc__law_within_word ck__law_within_word rfl (fun _ _ _ _ _ _ us hl => match us, hl with | [_, _, _], _ => rfl) (fun _ z => nomatch z)
theorem da__law_within_leads {K : PySem.W.Frag} {h : Heap} {mg : PySem.Str → Option Value} (X : K.In h) (Gm : h.Ns mainGlobals mg) (e : ∃ fa, FAt K "_law_within_leads" (topS 66) fa) : ∃ fa fd dd st, DefAt K mg G T "_law_within_leads" 4 ([] : List (Nat × List PySem.Str × List Nat)) fa fd dd st :=
  da_of (dd := d__law_within_leads) X Gm e (by kernel_rfl) rfl sc__law_within_leads ck__law_within_leads rfl (fun _ _ _ _ _ _ us hl => match us, hl with | [_, _, _, _], _ => rfl) (fun _ z => nomatch z)
theorem da__law_within_least {K : PySem.W.Frag} {h : Heap} {mg : PySem.Str → Option Value} (X : K.In h) (Gm : h.Ns mainGlobals mg) (e : ∃ fa, FAt K "_law_within_least" (topS 67) fa) : ∃ fa fd dd st, DefAt K mg G T "_law_within_least" 3 ([] : List (Nat × List PySem.Str × List Nat)) fa fd dd st :=
  da_of (dd := d__law_within_least) X Gm e (by kernel_rfl) rfl sc__law_within_least ck__law_within_least rfl (fun _ _ _ _ _ _ us hl => match us, hl with | [_, _, _], _ => rfl) (fun _ z => nomatch z)
theorem da__law_root {K : PySem.W.Frag} {h : Heap} {mg : PySem.Str → Option Value} (X : K.In h) (Gm : h.Ns mainGlobals mg) (e : ∃ fa, FAt K "_law_root" (topS 68) fa) : ∃ fa fd dd st, DefAt K mg G T "_law_root" 1 ([] : List (Nat × List PySem.Str × List Nat)) fa fd dd st :=
  da_of (dd := d__law_root) X Gm e (by kernel_rfl) rfl sc__law_root ck__law_root rfl (fun _ _ _ _ _ _ us hl => match us, hl with | [_], _ => rfl) (fun _ z => nomatch z)
theorem da__law_wished {K : PySem.W.Frag} {h : Heap} {mg : PySem.Str → Option Value} (X : K.In h) (Gm : h.Ns mainGlobals mg) (e : ∃ fa, FAt K "_law_wished" (topS 69) fa) : ∃ fa fd dd st, DefAt K mg G T "_law_wished" 3 ([] : List (Nat × List PySem.Str × List Nat)) fa fd dd st :=
  da_of (dd := d__law_wished) X Gm e (by kernel_rfl) rfl sc__law_wished ck__law_wished rfl (fun _ _ _ _ _ _ us hl => match us, hl with | [_, _, _], _ => rfl) (fun _ z => nomatch z)
theorem da__law_is_wish_right {K : PySem.W.Frag} {h : Heap} {mg : PySem.Str → Option Value} (X : K.In h) (Gm : h.Ns mainGlobals mg) (e : ∃ fa, FAt K "_law_is_wish_right" (topS 70) fa) : ∃ fa fd dd st, DefAt K mg G T "_law_is_wish_right" 6 ([] : List (Nat × List PySem.Str × List Nat)) fa fd dd st :=
  da_of (dd := d__law_is_wish_right) X Gm e (by kernel_rfl) rfl sc__law_is_wish_right ck__law_is_wish_right rfl (fun _ _ _ _ _ _ us hl => match us, hl with | [_, _, _, _, _, _], _ => rfl) (fun _ z => nomatch z)
theorem da__law_right {K : PySem.W.Frag} {h : Heap} {mg : PySem.Str → Option Value} (X : K.In h) (Gm : h.Ns mainGlobals mg) (e : ∃ fa, FAt K "_law_right" (topS 71) fa) : ∃ fa fd dd st, DefAt K mg G T "_law_right" 1 ([] : List (Nat × List PySem.Str × List Nat)) fa fd dd st :=
  da_of (dd := d__law_right) X Gm e (by kernel_rfl) rfl sc__law_right ck__law_right rfl (fun _ _ _ _ _ _ us hl => match us, hl with | [_], _ => rfl) (fun _ z => nomatch z)
theorem da_law {K : PySem.W.Frag} {h : Heap} {mg : PySem.Str → Option Value} (X : K.In h) (Gm : h.Ns mainGlobals mg) (e : ∃ fa, FAt K "law" (topS 72) fa) : ∃ fa fd dd st, DefAt K mg G T "law" 1 ([] : List (Nat × List PySem.Str × List Nat)) fa fd dd st :=
  da_of (dd := d_law) X Gm e (by kernel_rfl) rfl sc_law ck_law rfl (fun _ _ _ _ _ _ us hl => match us, hl with | [_], _ => rfl) (fun _ z => nomatch z)
theorem mod_mk {K : PySem.W.Frag} {h : Heap} {mg : PySem.Str → Option Value} {fuel : Nat} (X : K.In h) (Gm : h.Ns mainGlobals mg)
    (e_is_plain_integer : ∃ fa, FAt K "is_plain_integer" (topS 10) fa)
    (e_is_fraction : ∃ fa, FAt K "is_fraction" (topS 11) fa)
    (e_is_above_zero : ∃ fa, FAt K "is_above_zero" (topS 12) fa)
    (e_is_time : ∃ fa, FAt K "is_time" (topS 13) fa)
    (e_in_least_terms : ∃ fa, FAt K "in_least_terms" (topS 14) fa)
    (e_added : ∃ fa, FAt K "added" (topS 15) fa)
    (e_subtracted : ∃ fa, FAt K "subtracted" (topS 16) fa)
    (e_multiplied : ∃ fa, FAt K "multiplied" (topS 17) fa)
    (e_divided : ∃ fa, FAt K "divided" (topS 18) fa)
    (e_is_less : ∃ fa, FAt K "is_less" (topS 19) fa)
    (e_inverse : ∃ fa, FAt K "inverse" (topS 20) fa)
    (e_is_same : ∃ fa, FAt K "is_same" (topS 21) fa)
    (e_is_event : ∃ fa, FAt K "is_event" (topS 23) fa)
    (e_check_event : ∃ fa, FAt K "check_event" (topS 24) fa)
    (e_growth : ∃ fa, FAt K "growth" (topS 25) fa)
    (e_flown : ∃ fa, FAt K "flown" (topS 26) fa)
    (e_check_most : ∃ fa, FAt K "check_most" (topS 28) fa)
    (e_check_own_time : ∃ fa, FAt K "check_own_time" (topS 29) fa)
    (e_reach : ∃ fa, FAt K "reach" (topS 30) fa)
    (e_to_and_fro : ∃ fa, FAt K "to_and_fro" (topS 31) fa)
    (e_flown_pieces : ∃ fa, FAt K "flown_pieces" (topS 32) fa)
    (e_is_plan : ∃ fa, FAt K "is_plan" (topS 33) fa)
    (e_is_piece : ∃ fa, FAt K "is_piece" (topS 34) fa)
    (e_is_within : ∃ fa, FAt K "is_within" (topS 35) fa)
    (e_leads : ∃ fa, FAt K "leads" (topS 36) fa)
    (e_check_plan : ∃ fa, FAt K "check_plan" (topS 37) fa)
    (e_least_own : ∃ fa, FAt K "least_own" (topS 38) fa)
    (e_own_flight : ∃ fa, FAt K "own_flight" (topS 39) fa)
    (e_then_straight : ∃ fa, FAt K "then_straight" (topS 40) fa)
    (e_shows_own_flight : ∃ fa, FAt K "shows_own_flight" (topS 41) fa)
    (e__law_pot : ∃ fa, FAt K "_law_pot" (topS 43) fa)
    (e__law_take : ∃ fa, FAt K "_law_take" (topS 44) fa)
    (e__law_of : ∃ fa, FAt K "_law_of" (topS 45) fa)
    (e__law_cells : ∃ fa, FAt K "_law_cells" (topS 46) fa)
    (e__law_frac_common : ∃ fa, FAt K "_law_frac_common" (topS 47) fa)
    (e__law_frac : ∃ fa, FAt K "_law_frac" (topS 48) fa)
    (e__law_frac_plus : ∃ fa, FAt K "_law_frac_plus" (topS 49) fa)
    (e__law_frac_less : ∃ fa, FAt K "_law_frac_less" (topS 50) fa)
    (e__law_frac_times : ∃ fa, FAt K "_law_frac_times" (topS 51) fa)
    (e__law_frac_over : ∃ fa, FAt K "_law_frac_over" (topS 52) fa)
    (e__law_frac_is_less : ∃ fa, FAt K "_law_frac_is_less" (topS 53) fa)
    (e__law_frac_sum : ∃ fa, FAt K "_law_frac_sum" (topS 54) fa)
    (e__law_frac_is : ∃ fa, FAt K "_law_frac_is" (topS 55) fa)
    (e__law_frac_is_pace : ∃ fa, FAt K "_law_frac_is_pace" (topS 56) fa)
    (e__law_frac_drawn : ∃ fa, FAt K "_law_frac_drawn" (topS 57) fa)
    (e__law_frac_time : ∃ fa, FAt K "_law_frac_time" (topS 58) fa)
    (e__law_event_drawn : ∃ fa, FAt K "_law_event_drawn" (topS 59) fa)
    (e__law_event_gone : ∃ fa, FAt K "_law_event_gone" (topS 60) fa)
    (e__law_event_more : ∃ fa, FAt K "_law_event_more" (topS 61) fa)
    (e__law_is : ∃ fa, FAt K "_law_is" (topS 62) fa)
    (e__law_within_ends : ∃ fa, FAt K "_law_within_ends" (topS 63) fa)
    (e__law_within_pace : ∃ fa, FAt K "_law_within_pace" (topS 64) fa)
    (e__law_within_word : ∃ fa, FAt K "_law_within_word" (topS 65) fa)
    (e__law_within_leads : ∃ fa, FAt K "_law_within_leads" (topS 66) fa)
    (e__law_within_least : ∃ fa, FAt K "_law_within_least" (topS 67) fa)
    (e__law_root : ∃ fa, FAt K "_law_root" (topS 68) fa)
    (e__law_wished : ∃ fa, FAt K "_law_wished" (topS 69) fa)
    (e__law_is_wish_right : ∃ fa, FAt K "_law_is_wish_right" (topS 70) fa)
    (e__law_right : ∃ fa, FAt K "_law_right" (topS 71) fa)
    (e_law : ∃ fa, FAt K "law" (topS 72) fa)
    (z_abs : PySem.W.nsIn K mainGlobals "abs" = some none)
    (z_all : PySem.W.nsIn K mainGlobals "all" = some none)
    (z_bool : PySem.W.nsIn K mainGlobals "bool" = some none)
    (z_int : PySem.W.nsIn K mainGlobals "int" = some none)
    (z_isinstance : PySem.W.nsIn K mainGlobals "isinstance" = some none)
    (z_len : PySem.W.nsIn K mainGlobals "len" = some none)
    (z_list : PySem.W.nsIn K mainGlobals "list" = some none)
    (z_max : PySem.W.nsIn K mainGlobals "max" = some none)
    (z_min : PySem.W.nsIn K mainGlobals "min" = some none)
    (z_range : PySem.W.nsIn K mainGlobals "range" = some none)
    (z_str : PySem.W.nsIn K mainGlobals "str" = some none)
    (z_sum : PySem.W.nsIn K mainGlobals "sum" = some none)
    (z_tuple : PySem.W.nsIn K mainGlobals "tuple" = some none)
    (z_zip : PySem.W.nsIn K mainGlobals "zip" = some none)
    (m_gcd : PySem.W.nsIn K mainGlobals "gcd" = some (some (.builtin "math.gcd")))
    (c_ONE : CAt2 K "ONE" 1 1)
    (c_ZERO : CAt2 K "ZERO" 0 1) : Mod K mg G T fuel where
  bl := AllP.mem (l := G.bl) (And.intro (PySem.W.mg_none_of X Gm z_abs) (And.intro (PySem.W.mg_none_of X Gm z_all) (And.intro (PySem.W.mg_none_of X Gm z_bool) (And.intro (PySem.W.mg_none_of X Gm z_int) (And.intro (PySem.W.mg_none_of X Gm z_isinstance) (And.intro (PySem.W.mg_none_of X Gm z_len) (And.intro (PySem.W.mg_none_of X Gm z_list) (And.intro (PySem.W.mg_none_of X Gm z_max) (And.intro (PySem.W.mg_none_of X Gm z_min) (And.intro (PySem.W.mg_none_of X Gm z_range) (And.intro (PySem.W.mg_none_of X Gm z_str) (And.intro (PySem.W.mg_none_of X Gm z_sum) (And.intro (PySem.W.mg_none_of X Gm z_tuple) (And.intro (PySem.W.mg_none_of X Gm z_zip) (True.intro)))))))))))))))
  mf := AllP.mem (l := G.mf) (And.intro (PySem.W.mg_of X Gm m_gcd) (True.intro))
  co := fun n x m => AllP.mem (l := G.co) (Pr := fun x => ∀ n d o, evF T fuel n x [] = some (d, o) → ∃ v u, mg x = some u ∧ RelV v u ∧ ∀ H B, Rep K H B d v) (And.intro (co_of X Gm c_ONE (by kernel_rfl)) (And.intro (co_of X Gm c_ZERO (by kernel_rfl)) (True.intro))) x m n
  fn := fun f n kf m => AllP.mem (l := G.fn) (Pr := fun t => ∃ fa fd dd st, DefAt K mg G T t.1 t.2.1 t.2.2 fa fd dd st) (And.intro (da_is_plain_integer X Gm e_is_plain_integer) (And.intro (da_is_fraction X Gm e_is_fraction) (And.intro (da_is_above_zero X Gm e_is_above_zero) (And.intro (da_is_time X Gm e_is_time) (And.intro (da_in_least_terms X Gm e_in_least_terms) (And.intro (da_added X Gm e_added) (And.intro (da_subtracted X Gm e_subtracted) (And.intro (da_multiplied X Gm e_multiplied) (And.intro (da_divided X Gm e_divided) (And.intro (da_is_less X Gm e_is_less) (And.intro (da_inverse X Gm e_inverse) (And.intro (da_is_same X Gm e_is_same) (And.intro (da_is_event X Gm e_is_event) (And.intro (da_check_event X Gm e_check_event) (And.intro (da_growth X Gm e_growth) (And.intro (da_flown X Gm e_flown) (And.intro (da_check_most X Gm e_check_most) (And.intro (da_check_own_time X Gm e_check_own_time) (And.intro (da_reach X Gm e_reach) (And.intro (da_to_and_fro X Gm e_to_and_fro) (And.intro (da_flown_pieces X Gm e_flown_pieces) (And.intro (da_is_plan X Gm e_is_plan) (And.intro (da_is_piece X Gm e_is_piece) (And.intro (da_is_within X Gm e_is_within) (And.intro (da_leads X Gm e_leads) (And.intro (da_check_plan X Gm e_check_plan) (And.intro (da_least_own X Gm e_least_own) (And.intro (da_own_flight X Gm e_own_flight) (And.intro (da_then_straight X Gm e_then_straight) (And.intro (da_shows_own_flight X Gm e_shows_own_flight) (And.intro (da__law_pot X Gm e__law_pot) (And.intro (da__law_take X Gm e__law_take) (And.intro (da__law_of X Gm e__law_of) (And.intro (da__law_cells X Gm e__law_cells) (And.intro (da__law_frac_common X Gm e__law_frac_common) (And.intro (da__law_frac X Gm e__law_frac) (And.intro (da__law_frac_plus X Gm e__law_frac_plus) (And.intro (da__law_frac_less X Gm e__law_frac_less) (And.intro (da__law_frac_times X Gm e__law_frac_times) (And.intro (da__law_frac_over X Gm e__law_frac_over) (And.intro (da__law_frac_is_less X Gm e__law_frac_is_less) (And.intro (da__law_frac_sum X Gm e__law_frac_sum) (And.intro (da__law_frac_is X Gm e__law_frac_is) (And.intro (da__law_frac_is_pace X Gm e__law_frac_is_pace) (And.intro (da__law_frac_drawn X Gm e__law_frac_drawn) (And.intro (da__law_frac_time X Gm e__law_frac_time) (And.intro (da__law_event_drawn X Gm e__law_event_drawn) (And.intro (da__law_event_gone X Gm e__law_event_gone) (And.intro (da__law_event_more X Gm e__law_event_more) (And.intro (da__law_is X Gm e__law_is) (And.intro (da__law_within_ends X Gm e__law_within_ends) (And.intro (da__law_within_pace X Gm e__law_within_pace) (And.intro (da__law_within_word X Gm e__law_within_word) (And.intro (da__law_within_leads X Gm e__law_within_leads) (And.intro (da__law_within_least X Gm e__law_within_least) (And.intro (da__law_root X Gm e__law_root) (And.intro (da__law_wished X Gm e__law_wished) (And.intro (da__law_is_wish_right X Gm e__law_is_wish_right) (And.intro (da__law_right X Gm e__law_right) (And.intro (da_law X Gm e_law) (True.intro))))))))))))))))))))))))))))))))))))))))))))))))))))))))))))) (f, n, kf) (mem_look m)
  nw := fun f n m => AllP.mem (l := G.nw) (Pr := fun t => ∃ fa fd dd st, DefAt K mg G T t.1 t.2 [] fa fd dd st ∧ lastNew dd.body = true) (And.intro (da_new (d0 := d__law_pot) (da__law_pot X Gm e__law_pot) (by kernel_rfl) (by decide +kernel)) (True.intro)) (f, n) (mem_look m)
  ca := AllP.mem (l := G.ca) (True.intro)
  mt := fun t n c m z => AllP.mem (l := G.mt) (Pr := fun t => ∃ x q Cc fa fd dd st, DefO K G T t.1 x q t.2.1 t.2.2.1 t.2.2.2 Cc fa fd dd st) (True.intro) (t, n, c, m) (mem_look z)
  mks := fun c n z => AllP.mem (l := G.mks) (Pr := fun t => ∃ x q fl Cc fa fd dd st, DefM K mg G T t.1 x q t.2 fl Cc fa fd dd st) (True.intro) (c, n) (mem_look z)
  ne := by decide +kernel
  slf := rfl
/- FIN -/
end L09
namespace L09
open PySem L2 Mn
theorem ev1 {f : PySem.Str} {dd : FDef} {fu n : Nat} {ss : List Sl} (ht : T.lookup f = some dd) : evF T fu (n + 1) f ss = evD (evF T fu n) fu dd ss := by
  show (match T.lookup f with | some d => evD (evF T fu n) fu d ss | none => none) = _
  rw [ht]
/-! ### numbers that are small enough -/
theorem sm_of {i : Int} (h : i.natAbs < 2 ^ 8000) : sm i = true := by
  unfold sm
  rw [decide_eq_true_eq]
  by_cases z : i.natAbs = 0
  · rw [z]; decide
  · exact (Nat.log2_lt z).2 h
structure Bq (k : Nat) (q : Rat) : Prop where
  n : q.num.natAbs < 2 ^ k
  d : q.den < 2 ^ k
theorem Bq.le {k l : Nat} {q : Rat} (h : Bq k q) (e : k ≤ l) : Bq l q :=
  ⟨Nat.lt_of_lt_of_le h.n (Nat.pow_le_pow_right (by decide) e), Nat.lt_of_lt_of_le h.d (Nat.pow_le_pow_right (by decide) e)⟩
def fr (q : Rat) : D := .tup [.int q.num, .int q.den]
theorem norm_eq {a : Int} {b : Nat} (h : b ≠ 0) : fr (Rat.normalize a b h) = .tup [.int (a.fdiv (Nat.gcd a.natAbs b : Nat)), .int ((b : Int).fdiv (Nat.gcd a.natAbs b : Nat))] := by
  unfold fr
  rw [Rat.normalize_eq]
  rw [Int.fdiv_eq_ediv_of_nonneg _ (Int.natCast_nonneg _), Int.fdiv_eq_ediv_of_nonneg _ (Int.natCast_nonneg _)]
  rw [Int.natCast_ediv]
theorem norm_bd {a : Int} {b k : Nat} (h : b ≠ 0) (ha : a.natAbs < 2 ^ k) (hb : b < 2 ^ k) : Bq k (Rat.normalize a b h) := by
  rw [Rat.normalize_eq]
  constructor
  · show (a / _).natAbs < _
    rw [Int.natAbs_ediv_of_dvd] <;> first | exact Nat.lt_of_le_of_lt (Nat.div_le_self _ _) ha | skip
    exact Int.ofNat_dvd_left.2 (Nat.gcd_dvd_left _ _)
  · exact Nat.lt_of_le_of_lt (Nat.div_le_self _ _) hb
theorem s_least {fu n : Nat} {a : Int} {b : Nat} (h0 : b ≠ 0) (hs : b < 2 ^ 8000) :
    evF T fu (n + 1) "in_least_terms" [.val (.int a), .val (.int b)] = some (fr (Rat.normalize a b h0), []) := by
  rw [ev1 (dd := d_in_least_terms) (by kernel_rfl), norm_eq]
  unfold d_in_least_terms
  have h1 : ((Nat.gcd a.natAbs b : Nat) : Int) ≠ 0 := by
    have : 0 < Nat.gcd a.natAbs b := Nat.gcd_pos_of_pos_right _ (by omega)
    omega
  have h2 : sm ((Nat.gcd a.natAbs b : Nat) : Int) = true := sm_of (by
    rw [Int.natAbs_natCast]
    exact Nat.lt_of_le_of_lt (Nat.gcd_le_right _ (by omega)) hs)
  have e : ((Nat.gcd a.natAbs (b : Int).natAbs : Nat) : Int) = (Nat.gcd a.natAbs b : Nat) := by rw [Int.natAbs_natCast]
  generalize hg : ((Nat.gcd a.natAbs b : Nat) : Int) = g at *
  simp [evE, evT, evL, evA, evO, evAr, evS, evD, putS, peek, mutS, setM, opB, opC, opF, opIx, opSl, walk, unpS, bindT, refs, argS, putBack, permA, outsOf, atI, ixN, tru, setJ, e, h2, h1, lim, -Int.natAbs_natCast]
theorem Bq.add {a b : Nat} {p q : Rat} (h : Bq a p) (g : Bq b q) : Bq (a + b + 1) (p + q) := by
  rw [Rat.add_def]
  have e : 2 ^ (a + b) = 2 ^ a * 2 ^ b := Nat.pow_add ..
  have e2 : 2 ^ (a + b + 1) = 2 ^ (a + b) * 2 := Nat.pow_succ ..
  have m1 : (p.num * q.den).natAbs < 2 ^ (a + b) := by
    rw [Int.natAbs_mul, Int.natAbs_natCast, e]
    exact Nat.mul_lt_mul'' h.n g.d
  have m2 : (q.num * p.den).natAbs < 2 ^ (a + b) := by
    rw [Int.natAbs_mul, Int.natAbs_natCast, Nat.mul_comm, e]
    exact Nat.mul_lt_mul'' h.d g.n
  have m3 : p.den * q.den < 2 ^ (a + b) := by rw [e]; exact Nat.mul_lt_mul'' h.d g.d
  refine norm_bd _ ?_ ?_
  · have := Int.natAbs_add_le (p.num * q.den) (q.num * p.den)
    omega
  · omega
theorem Bq.sub {a b : Nat} {p q : Rat} (h : Bq a p) (g : Bq b q) : Bq (a + b + 1) (p - q) := by
  rw [Rat.sub_def]
  have e : 2 ^ (a + b) = 2 ^ a * 2 ^ b := Nat.pow_add ..
  have e2 : 2 ^ (a + b + 1) = 2 ^ (a + b) * 2 := Nat.pow_succ ..
  have m1 : (p.num * q.den).natAbs < 2 ^ (a + b) := by
    rw [Int.natAbs_mul, Int.natAbs_natCast, e]
    exact Nat.mul_lt_mul'' h.n g.d
  have m2 : (q.num * p.den).natAbs < 2 ^ (a + b) := by
    rw [Int.natAbs_mul, Int.natAbs_natCast, Nat.mul_comm, e]
    exact Nat.mul_lt_mul'' h.d g.n
  have m3 : p.den * q.den < 2 ^ (a + b) := by rw [e]; exact Nat.mul_lt_mul'' h.d g.d
  refine norm_bd _ ?_ ?_
  · omega
  · omega
theorem Bq.mul {a b : Nat} {p q : Rat} (h : Bq a p) (g : Bq b q) : Bq (a + b) (p * q) := by
  rw [Rat.mul_def]
  have e : 2 ^ (a + b) = 2 ^ a * 2 ^ b := Nat.pow_add ..
  refine norm_bd _ ?_ ?_
  · rw [Int.natAbs_mul, e]
    exact Nat.mul_lt_mul'' h.n g.n
  · rw [e]; exact Nat.mul_lt_mul'' h.d g.d
theorem numpos {q : Rat} (h : 0 < q) : 0 < q.num := by
  have h1 := Rat.num_nonneg.2 (Rat.le_of_lt h)
  have h2 : q.num ≠ 0 := fun e => by
    rw [Rat.num_eq_zero] at e
    rw [e] at h
    exact absurd h (by decide)
  omega
theorem pos_num {q : Rat} (h : 0 < q.num) : 0 < q := by
  have h1 : 0 ≤ q := Rat.num_nonneg.1 (by omega)
  rcases Rat.le_iff_lt_or_eq.1 h1 with h2 | h2
  · exact h2
  · rw [← h2] at h; exact absurd h (by decide)
theorem nd_self (p : Rat) : p = (p.num : Rat) / (p.den : Rat) := by
  rw [← Rat.mkRat_eq_div, Rat.mkRat_self]
theorem div_norm (p q : Rat) (h : 0 < q) : ∃ z : p.den * q.num.natAbs ≠ 0, p / q = Rat.normalize (p.num * q.den) (p.den * q.num.natAbs) z := by
  have hn : 0 < q.num := numpos h
  have z : p.den * q.num.natAbs ≠ 0 := Nat.mul_ne_zero p.den_nz (by omega)
  refine ⟨z, ?_⟩
  rw [Rat.normalize_eq_mkRat, Rat.mkRat_eq_div]
  have e1 : p = (p.num : Rat) / (p.den : Rat) := nd_self p
  have e2 : q = (q.num : Rat) / (q.den : Rat) := nd_self q
  have n1 : (p.den : Rat) ≠ 0 := by have := p.den_nz; exact_mod_cast this
  have n2 : (q.den : Rat) ≠ 0 := by have := q.den_nz; exact_mod_cast this
  have n3 : (q.num : Rat) ≠ 0 := by
    have : q.num ≠ 0 := by omega
    exact_mod_cast this
  have e3 : ((p.den * q.num.natAbs : Nat) : Rat) = (p.den : Rat) * (q.num : Rat) := by
    have : ((q.num.natAbs : Nat) : Int) = q.num := by omega
    rw [Rat.natCast_mul]
    congr 1
    rw [← Rat.intCast_natCast, this]
  have e4 : ((p.num * (q.den : Int) : Int) : Rat) = (p.num : Rat) * (q.den : Rat) := by
    rw [Rat.intCast_mul, Rat.intCast_natCast]
  rw [e3, e4]
  conv => lhs; rw [e1, e2]
  generalize (p.num : Rat) = a at *
  generalize (p.den : Rat) = b at *
  generalize (q.num : Rat) = c at *
  generalize (q.den : Rat) = d at *
  clear e1 e2 e3 e4 z hn h
  grind
theorem Bq.div {a b : Nat} {p q : Rat} (h : Bq a p) (g : Bq b q) (hq : 0 < q) : Bq (a + b) (p / q) := by
  obtain ⟨z, e⟩ := div_norm p q hq
  rw [e]
  have e : 2 ^ (a + b) = 2 ^ a * 2 ^ b := Nat.pow_add ..
  refine norm_bd _ ?_ ?_
  · rw [Int.natAbs_mul, e, Int.natAbs_natCast]
    exact Nat.mul_lt_mul'' h.n g.d
  · rw [e]; exact Nat.mul_lt_mul'' h.d g.n
theorem Bq.sn {k : Nat} {q : Rat} (h : Bq k q) (hk : k ≤ 8000) : sm q.num = true := sm_of (Nat.lt_of_lt_of_le h.n (Nat.pow_le_pow_right (by decide) hk))
theorem Bq.sd {k : Nat} {q : Rat} (h : Bq k q) (hk : k ≤ 8000) : sm (q.den : Int) = true := sm_of (Nat.lt_of_lt_of_le (by rw [Int.natAbs_natCast]; exact h.d) (Nat.pow_le_pow_right (by decide) hk))
theorem den_lt {k l : Nat} {p q : Rat} (h : Bq k p) (g : Bq l q) (e : k + l ≤ 8000) : p.den * q.den < 2 ^ 8000 :=
  Nat.lt_of_lt_of_le (Nat.mul_lt_mul'' h.d g.d) (by rw [← Nat.pow_add]; exact Nat.pow_le_pow_right (by decide) e)
theorem s_added {fu n : Nat} {p q : Rat} (h : Bq 2000 p) (g : Bq 2000 q) : evF T fu (n + 2) "added" [.val (fr p), .val (fr q)] = some (fr (p + q), []) := by
  rw [ev1 (dd := d_added) (by kernel_rfl), Rat.add_def]
  unfold d_added
  have hd := s_least (fu := fu) (n := n) (a := p.num * q.den + q.num * p.den) (b := p.den * q.den) (Nat.mul_ne_zero p.den_nz q.den_nz) (den_lt h g (by decide))
  rw [Int.natCast_mul] at hd
  generalize fr (Rat.normalize _ _ _) = r at hd ⊢
  unfold fr
  simp [evE, evT, evL, evA, evO, evAr, evS, evD, putS, peek, mutS, setM, opB, opC, opF, opIx, opSl, walk, unpS, bindT, refs, argS, putBack, permA, outsOf, atI, ixN, tru, setJ, h.sn, h.sd, g.sn, g.sd, hd]
theorem s_subtracted {fu n : Nat} {p q : Rat} (h : Bq 2000 p) (g : Bq 2000 q) : evF T fu (n + 2) "subtracted" [.val (fr p), .val (fr q)] = some (fr (p - q), []) := by
  rw [ev1 (dd := d_subtracted) (by kernel_rfl), Rat.sub_def]
  unfold d_subtracted
  have hd := s_least (fu := fu) (n := n) (a := p.num * q.den - q.num * p.den) (b := p.den * q.den) (Nat.mul_ne_zero p.den_nz q.den_nz) (den_lt h g (by decide))
  rw [Int.natCast_mul] at hd
  generalize fr (Rat.normalize _ _ _) = r at hd ⊢
  unfold fr
  simp [evE, evT, evL, evA, evO, evAr, evS, evD, putS, peek, mutS, setM, opB, opC, opF, opIx, opSl, walk, unpS, bindT, refs, argS, putBack, permA, outsOf, atI, ixN, tru, setJ, h.sn, h.sd, g.sn, g.sd, hd]
theorem s_multiplied {fu n : Nat} {p q : Rat} (h : Bq 2000 p) (g : Bq 2000 q) : evF T fu (n + 2) "multiplied" [.val (fr p), .val (fr q)] = some (fr (p * q), []) := by
  rw [ev1 (dd := d_multiplied) (by kernel_rfl), Rat.mul_def]
  unfold d_multiplied
  have hd := s_least (fu := fu) (n := n) (a := p.num * q.num) (b := p.den * q.den) (Nat.mul_ne_zero p.den_nz q.den_nz) (den_lt h g (by decide))
  rw [Int.natCast_mul] at hd
  generalize fr (Rat.normalize _ _ _) = r at hd ⊢
  unfold fr
  simp [evE, evT, evL, evA, evO, evAr, evS, evD, putS, peek, mutS, setM, opB, opC, opF, opIx, opSl, walk, unpS, bindT, refs, argS, putBack, permA, outsOf, atI, ixN, tru, setJ, h.sn, h.sd, g.sn, g.sd, hd]
theorem s_divided {fu n : Nat} {p q : Rat} (h : Bq 2000 p) (g : Bq 2000 q) (hq : 0 < q) : evF T fu (n + 2) "divided" [.val (fr p), .val (fr q)] = some (fr (p / q), []) := by
  obtain ⟨z, e⟩ := div_norm p q hq
  rw [ev1 (dd := d_divided) (by kernel_rfl), e]
  unfold d_divided
  have hd := s_least (fu := fu) (n := n) (a := p.num * q.den) (b := p.den * q.num.natAbs) z (Nat.lt_of_lt_of_le (Nat.mul_lt_mul'' h.d g.n) (by rw [← Nat.pow_add]; exact Nat.pow_le_pow_right (by decide) (by decide)))
  have e2 : ((p.den * q.num.natAbs : Nat) : Int) = p.den * q.num := by
    have := numpos hq
    rw [Int.natCast_mul, Int.natAbs_of_nonneg (by omega)]
  rw [e2] at hd
  generalize fr (Rat.normalize _ _ _) = r at hd ⊢
  unfold fr
  simp [evE, evT, evL, evA, evO, evAr, evS, evD, putS, peek, mutS, setM, opB, opC, opF, opIx, opSl, walk, unpS, bindT, refs, argS, putBack, permA, outsOf, atI, ixN, tru, setJ, h.sn, h.sd, g.sn, g.sd, hd]
def ev (u v : Rat) : D := .tup [fr u, fr v]
theorem kt {xs : List D} : kitB (tyOf (.tup xs)) "tuple" = some true := by show kitB "tuple" "tuple" = some true; decide +kernel
theorem ki {i : Int} : kitB (tyOf (.int i)) "int" = some true := by show kitB "int" "int" = some true; decide +kernel
theorem kib {i : Int} : kitB (tyOf (.int i)) "bool" = some false := by show kitB "int" "bool" = some false; decide +kernel
theorem dsh_int {i : Int} : dsh (.int i) = true := rfl
theorem dsh_str {i : PySem.Str} : dsh (.str i) = true := rfl
theorem dsh_bl {i : Bool} : dsh (.bl i) = true := rfl
theorem deq_int {i j : Int} : deq (.int i) (.int j) = decide (i = j) := by
  show (i == j) = _
  by_cases h : i = j
  · subst h; simp [evE, evT, evL, evA, evO, evAr, evS, evD, putS, peek, mutS, setM, opB, opC, opF, opIx, opSl, walk, unpS, bindT, refs, argS, putBack, permA, outsOf, atI, ixN, tru, setJ]
  · rw [decide_eq_false h]; simp [evE, evT, evL, evA, evO, evAr, evS, evD, putS, peek, mutS, setM, opB, opC, opF, opIx, opSl, walk, unpS, bindT, refs, argS, putBack, permA, outsOf, atI, ixN, tru, setJ, h]
theorem dsh_fr {q : Rat} : dsh (fr q) = true := rfl
theorem rat_eq {p q : Rat} (h : p.num = q.num) (g : p.den = q.den) : p = q := by
  cases p; cases q
  simp [evE, evT, evL, evA, evO, evAr, evS, evD, putS, peek, mutS, setM, opB, opC, opF, opIx, opSl, walk, unpS, bindT, refs, argS, putBack, permA, outsOf, atI, ixN, tru, setJ] at h g
  subst h g
  rfl
theorem deq_fr {p q : Rat} : deq (fr p) (fr q) = decide (p = q) := by
  show ((p.num == q.num) && (((p.den : Int) == (q.den : Int)) && true)) = _
  by_cases h : p = q
  · subst h; simp [evE, evT, evL, evA, evO, evAr, evS, evD, putS, peek, mutS, setM, opB, opC, opF, opIx, opSl, walk, unpS, bindT, refs, argS, putBack, permA, outsOf, atI, ixN, tru, setJ]
  · rw [decide_eq_false h]
    by_cases h1 : p.num = q.num
    · by_cases h2 : p.den = q.den
      · exact absurd (rat_eq h1 h2) h
      · have : ¬ ((p.den : Int) = (q.den : Int)) := by omega
        simp [evE, evT, evL, evA, evO, evAr, evS, evD, putS, peek, mutS, setM, opB, opC, opF, opIx, opSl, walk, unpS, bindT, refs, argS, putBack, permA, outsOf, atI, ixN, tru, setJ, this]
    · simp [evE, evT, evL, evA, evO, evAr, evS, evD, putS, peek, mutS, setM, opB, opC, opF, opIx, opSl, walk, unpS, bindT, refs, argS, putBack, permA, outsOf, atI, ixN, tru, setJ, h1]
theorem dsh_ev {u v : Rat} : dsh (ev u v) = true := rfl
theorem deq_ev {a b c d : Rat} : deq (ev a b) (ev c d) = (decide (a = c) && decide (b = d)) := by
  rw [← deq_fr, ← deq_fr]
  show (deq (fr a) (fr c) && (deq (fr b) (fr d) && true)) = _
  rw [Bool.and_true]
theorem s_plain {fu n : Nat} {i : Int} : evF T fu (n + 1) "is_plain_integer" [.val (.int i)] = some (.bl true, []) := by
  rw [ev1 (dd := d_is_plain_integer) (by kernel_rfl)]
  unfold d_is_plain_integer
  simp [evE, evT, evL, evA, evO, evAr, evS, evD, putS, peek, mutS, setM, opB, opC, opF, opIx, opSl, walk, unpS, bindT, refs, argS, putBack, permA, outsOf, atI, ixN, tru, setJ, ki, kib]
theorem s_frac {fu n : Nat} {q : Rat} : evF T fu (n + 2) "is_fraction" [.val (fr q)] = some (.bl true, []) := by
  rw [ev1 (dd := d_is_fraction) (by kernel_rfl)]
  unfold d_is_fraction
  have hp : (1 : Int) ≤ q.den := by have := q.den_pos; omega
  have hr : q.num.natAbs.gcd q.den = 1 := q.reduced
  unfold fr
  simp [evE, evT, evL, evA, evO, evAr, evS, evD, putS, peek, mutS, setM, opB, opC, opF, opIx, opSl, walk, unpS, bindT, refs, argS, putBack, permA, outsOf, atI, ixN, tru, setJ, kt, s_plain, hr, hp, dsh_int, deq_int]
theorem s_above {fu n : Nat} {q : Rat} (h : 0 < q) : evF T fu (n + 3) "is_above_zero" [.val (fr q)] = some (.bl true, []) := by
  rw [ev1 (dd := d_is_above_zero) (by kernel_rfl)]
  unfold d_is_above_zero
  have hp := numpos h
  have hf := s_frac (fu := fu) (n := n) (q := q)
  unfold fr at hf ⊢
  simp [evE, evT, evL, evA, evO, evAr, evS, evD, putS, peek, mutS, setM, opB, opC, opF, opIx, opSl, walk, unpS, bindT, refs, argS, putBack, permA, outsOf, atI, ixN, tru, setJ, hf, hp]
theorem s_isev {fu n : Nat} {u v : Rat} : evF T fu (n + 3) "is_event" [.val (ev u v)] = some (.bl true, []) := by
  rw [ev1 (dd := d_is_event) (by kernel_rfl)]
  unfold d_is_event ev
  simp [evE, evT, evL, evA, evO, evAr, evS, evD, putS, peek, mutS, setM, opB, opC, opF, opIx, opSl, walk, unpS, bindT, refs, argS, putBack, permA, outsOf, atI, ixN, tru, setJ, kt, s_frac, dsh_int, deq_int]
theorem s_ckev {fu n : Nat} {u v : Rat} : evF T fu (n + 4) "check_event" [.val (ev u v)] = some (.non, []) := by
  rw [ev1 (dd := d_check_event) (by kernel_rfl)]
  unfold d_check_event
  simp [evE, evT, evL, evA, evO, evAr, evS, evD, putS, peek, mutS, setM, opB, opC, opF, opIx, opSl, walk, unpS, bindT, refs, argS, putBack, permA, outsOf, atI, ixN, tru, setJ, s_isev]
structure Be (k : Nat) (u v : Rat) : Prop where
  u : Bq k u
  v : Bq k v
theorem Be.le {k l : Nat} {u v : Rat} (h : Be k u v) (e : k ≤ l) : Be l u v := ⟨h.u.le e, h.v.le e⟩
theorem s_growth {fu n : Nat} {a b c d : Rat} (h : Be 2000 a b) (g : Be 2000 c d) : evF T fu (n + 3) "growth" [.val (ev a b), .val (ev c d)] = some (ev (c - a) (d - b), []) := by
  rw [ev1 (dd := d_growth) (by kernel_rfl)]
  unfold d_growth ev
  simp [evE, evT, evL, evA, evO, evAr, evS, evD, putS, peek, mutS, setM, opB, opC, opF, opIx, opSl, walk, unpS, bindT, refs, argS, putBack, permA, outsOf, atI, ixN, tru, setJ, s_subtracted g.u h.u, s_subtracted g.v h.v, lim]
def isA (a b c d : Rat) : Bool := !(decide (a = c) && decide (b = d)) && (decide (0 ≤ c - a) && decide (0 ≤ d - b))
theorem isq {x : Nat} (h : x < 2 ^ 60) : opF .isqrt [.int (x : Int)] = some (.int (Float64.isqrt x : Nat)) := by
  show (if (decide (0 ≤ (x : Int)) && wi 63 (x : Int)) = true then some (D.int ((Float64.isqrt (x : Int).toNat : Nat) : Int)) else none) = _
  rw [if_pos, Int.toNat_natCast]
  rw [Bool.and_eq_true, decide_eq_true_eq]
  exact ⟨by omega, lt_wi (by rw [Int.natAbs_natCast]; exact Nat.lt_of_lt_of_le h (by decide)) (by decide)⟩
theorem oabs {i : Int} : opF .abs [.int i] = some (.int (i.natAbs : Int)) := by
  unfold opF
  simp only [Option.some.injEq, D.int.injEq]
  split <;> omega
theorem isq_le (x : Nat) : Float64.isqrt x ≤ x := by
  have h := (Float64.isqrt_spec x).1
  exact Nat.le_trans (Nat.le_mul_self _) h
theorem fr_inv {n : Nat} (h : 0 < n) : fr (1 / (n : Rat)) = .tup [.int 1, .int n] := by
  have h1 : (0 : Rat) < (n : Rat) := by exact_mod_cast h
  obtain ⟨z, e⟩ := div_norm 1 (n : Rat) h1
  rw [e, norm_eq]
  have a1 : (1 : Rat).num = 1 := rfl
  have a2 : (1 : Rat).den = 1 := rfl
  have a3 : ((n : Nat) : Rat).num = n := Rat.num_natCast n
  have a4 : ((n : Nat) : Rat).den = 1 := Rat.den_natCast n
  simp [evE, evT, evL, evA, evO, evAr, evS, evD, putS, peek, mutS, setM, opB, opC, opF, opIx, opSl, walk, unpS, bindT, refs, argS, putBack, permA, outsOf, atI, ixN, tru, setJ, a1, a2, a3, a4]
theorem fr_nat {n : Nat} : fr (n : Rat) = .tup [.int n, .int 1] := by
  unfold fr
  rw [Rat.num_natCast, Rat.den_natCast]
  rfl
theorem bq_nat {n k : Nat} (h : n < 2 ^ k) (hk : 0 < k) : Bq k (n : Rat) := by
  refine ⟨?_, ?_⟩
  · rw [Rat.num_natCast]; simpa using h
  · rw [Rat.den_natCast]; exact Nat.one_lt_two_pow (by omega)
theorem s_zero {fu n : Nat} : evF T fu (n + 1) "ZERO" [] = some (fr 0, []) := by
  rw [ev1 (dd := d_ZERO) (by kernel_rfl)]
  unfold d_ZERO
  simp [evE, evT, evL, evA, evO, evAr, evS, evD, putS, peek, mutS, setM, opB, opC, opF, opIx, opSl, walk, unpS, bindT, refs, argS, putBack, permA, outsOf, atI, ixN, tru, setJ, lim]
  rfl
/-- what sequence tells, its first word -/
def sqW (a b c d : Rat) : PySem.Str := if a = c ∧ b = d then "same" else if isA a b c d then "ahead" else if isA c d a b then "behind" else "either"
abbrev vi (i : Int) : Option Sl := some (.val (.int i))
theorem whl_gcd (c : Mn.Env → Option (Bool × Mn.Env)) (b : Mn.Env → Option (Fl × Mn.Env))
    (hc : ∀ x y : Nat, c [vi x, vi y] = some (decide (0 < y), [vi x, vi y]))
    (hb : ∀ x y : Nat, 0 < y → b [vi x, vi y] = some (.nx, [vi y, vi ((x % y : Nat) : Int)])) :
    ∀ (k x y fu : Nat), y < 2 ^ k → 2 * k + 1 ≤ fu → whlN c b fu [vi x, vi y] = some (.nx, [vi ((Nat.gcd x y : Nat) : Int), vi ((0 : Nat) : Int)])
  | k, x, y, 0, _, h => by omega
  | k, x, y, fu + 1, hy, hf => by
    unfold whlN
    rw [hc]
    by_cases z : y = 0
    · subst z
      simp [evE, evT, evL, evA, evO, evAr, evS, evD, putS, peek, mutS, setM, opB, opC, opF, opIx, opSl, walk, unpS, bindT, refs, argS, putBack, permA, outsOf, atI, ixN, tru, setJ]
    · have zp : 0 < y := by omega
      rw [decide_eq_true zp]
      simp only [Option.bind_eq_bind, Option.bind_some, if_true]
      rw [hb x y zp]
      simp only [Option.bind_some]
      have g1 : Nat.gcd x y = Nat.gcd y (x % y) := by
        rw [Nat.gcd_comm x y, Nat.gcd_rec y x, Nat.gcd_comm]
      rw [g1]
      cases k with
      | zero => have : y < 1 := hy; omega
      | succ k =>
        have hr : x % y < y := Nat.mod_lt _ zp
        by_cases r0 : x % y < 2 ^ k
        · exact whl_gcd c b hc hb k y (x % y) fu r0 (by omega)
        · -- one more turn
          cases fu with
          | zero => omega
          | succ fu =>
            unfold whlN
            rw [hc]
            have rp : 0 < x % y := by
              have := Nat.pos_of_ne_zero (Nat.pos_iff_ne_zero.1 (Nat.two_pow_pos k))
              omega
            rw [decide_eq_true rp]
            simp only [Option.bind_eq_bind, Option.bind_some, if_true]
            rw [hb y (x % y) rp]
            simp only [Option.bind_some]
            have g2 : Nat.gcd y (x % y) = Nat.gcd (x % y) (y % (x % y)) := by
              rw [Nat.gcd_comm y (x % y), Nat.gcd_rec (x % y) y, Nat.gcd_comm]
            rw [g2]
            refine whl_gcd c b hc hb k (x % y) (y % (x % y)) fu ?_ (by omega)
            have e : 2 ^ (k + 1) = 2 * 2 ^ k := by rw [Nat.pow_succ, Nat.mul_comm]
            have h2 : y % (x % y) ≤ y - x % y := by
              rw [Nat.mod_eq_sub_mod (by omega)]
              exact Nat.mod_le _ _
            omega
theorem s_common {fu n : Nat} {a b : Int} (hb : b.natAbs < 2 ^ 4000) (hf : 8001 ≤ fu) : evF T fu (n + 1) "_law_frac_common" [.val (.int a), .val (.int b)] = some (.int ((Nat.gcd a.natAbs b.natAbs : Nat) : Int), []) := by
  rw [ev1 (dd := d__law_frac_common) (by kernel_rfl)]
  unfold d__law_frac_common
  have w := whl_gcd (fun e => evT (evF T fu n) (.tval (.cmp .gt (.var 1) (.con (.int 0)))) e) (fun e => evS (evF T fu n) fu (.seq (.par 0 1 false false (.var 1) (.bin .mod (.blt .int (.cons (.var 0) .nil)) (.var 1))) .nil) e)
    (fun x y => by simp [evE, evT, evL, evA, evO, evAr, evS, evD, putS, peek, mutS, setM, opB, opC, opF, opIx, opSl, walk, unpS, bindT, refs, argS, putBack, permA, outsOf, atI, ixN, tru, setJ]) (fun x y hy => by
      have h1 : (0 : Int) < (y : Int) := by omega
      simp [evE, evT, evL, evA, evO, evAr, evS, evD, putS, peek, mutS, setM, opB, opC, opF, opIx, opSl, walk, unpS, bindT, refs, argS, putBack, permA, outsOf, atI, ixN, tru, setJ, h1, hy]) 4000 a.natAbs b.natAbs fu hb (by omega)
  have e0 : evS (evF T fu n) fu (.par 0 1 false false (.blt .abs (.cons (.var 0) .nil)) (.blt .abs (.cons (.var 1) .nil))) [vi a, vi b] = some (.nx, [vi (a.natAbs : Int), vi (b.natAbs : Int)]) := by
    simp [evE, evT, evL, evA, evO, evAr, evS, evD, putS, peek, mutS, setM, opB, opC, opIx, opSl, walk, unpS, bindT, refs, argS, putBack, permA, outsOf, atI, ixN, tru, setJ, oabs]
  unfold evD
  simp only [List.length_cons, List.length_nil, if_true, List.map_cons, List.map_nil, List.append_nil, List.replicate, Nat.sub_self, Nat.zero_add, List.cons_append, List.nil_append]
  rw [evS, e0]
  simp only [Option.bind_eq_bind, Option.bind_some]
  rw [evS, evS, w]
  simp [evE, evT, evL, evA, evO, evAr, evS, evD, putS, peek, mutS, setM, opB, opC, opF, opIx, opSl, walk, unpS, bindT, refs, argS, putBack, permA, outsOf, atI, ixN, tru, setJ]
theorem s_lfrac {fu n : Nat} {a : Int} {b : Nat} (h0 : b ≠ 0) (hb : b < 2 ^ 4000) (hf : 8001 ≤ fu) : evF T fu (n + 2) "_law_frac" [.val (.int a), .val (.int b)] = some (fr (Rat.normalize a b h0), []) := by
  rw [ev1 (dd := d__law_frac) (by kernel_rfl), norm_eq]
  unfold d__law_frac
  have e := s_common (fu := fu) (n := n) (a := a) (b := (b : Int)) (by rw [Int.natAbs_natCast]; exact hb) hf
  rw [Int.natAbs_natCast] at e
  have hp : 0 < Nat.gcd a.natAbs b := Nat.gcd_pos_of_pos_right _ (by omega)
  have st : sm ((Nat.gcd a.natAbs b : Nat) : Int) = true := sm_of (by
    rw [Int.natAbs_natCast]
    exact Nat.lt_of_le_of_lt (Nat.gcd_le_right _ (by omega)) (Nat.lt_of_lt_of_le hb (Nat.pow_le_pow_right (by decide) (by decide))))
  generalize Nat.gcd a.natAbs b = g at *
  have g0 : g ≠ 0 := by omega
  have b0 : 0 < b := by omega
  simp [evE, evT, evL, evA, evO, evAr, evS, evD, putS, peek, mutS, setM, opB, opC, opF, opIx, opSl, walk, unpS, bindT, refs, argS, putBack, permA, outsOf, atI, ixN, tru, setJ, e, st, g0, b0, lim]
theorem s_lplus {fu n : Nat} {p q : Rat} (h : Bq 1900 p) (g : Bq 1900 q) (hf : 8001 ≤ fu) : evF T fu (n + 3) "_law_frac_plus" [.val (fr p), .val (fr q)] = some (fr (p + q), []) := by
  rw [ev1 (dd := d__law_frac_plus) (by kernel_rfl), Rat.add_def]
  unfold d__law_frac_plus
  have hd := s_lfrac (fu := fu) (n := n) (a := p.num * q.den + q.num * p.den) (b := p.den * q.den) (Nat.mul_ne_zero p.den_nz q.den_nz) (Nat.lt_of_lt_of_le (Nat.mul_lt_mul'' h.d g.d) (by rw [← Nat.pow_add]; exact Nat.pow_le_pow_right (by decide) (by decide))) hf
  rw [Int.natCast_mul] at hd
  generalize fr (Rat.normalize _ _ _) = r at hd ⊢
  unfold fr
  simp [evE, evT, evL, evA, evO, evAr, evS, evD, putS, peek, mutS, setM, opB, opC, opF, opIx, opSl, walk, unpS, bindT, refs, argS, putBack, permA, outsOf, atI, ixN, tru, setJ, h.sn, h.sd, g.sn, g.sd, hd]
theorem s_ltimes {fu n : Nat} {p q : Rat} (h : Bq 1900 p) (g : Bq 1900 q) (hf : 8001 ≤ fu) : evF T fu (n + 3) "_law_frac_times" [.val (fr p), .val (fr q)] = some (fr (p * q), []) := by
  rw [ev1 (dd := d__law_frac_times) (by kernel_rfl), Rat.mul_def]
  unfold d__law_frac_times
  have hd := s_lfrac (fu := fu) (n := n) (a := p.num * q.num) (b := p.den * q.den) (Nat.mul_ne_zero p.den_nz q.den_nz) (Nat.lt_of_lt_of_le (Nat.mul_lt_mul'' h.d g.d) (by rw [← Nat.pow_add]; exact Nat.pow_le_pow_right (by decide) (by decide))) hf
  rw [Int.natCast_mul] at hd
  generalize fr (Rat.normalize _ _ _) = r at hd ⊢
  unfold fr
  simp [evE, evT, evL, evA, evO, evAr, evS, evD, putS, peek, mutS, setM, opB, opC, opF, opIx, opSl, walk, unpS, bindT, refs, argS, putBack, permA, outsOf, atI, ixN, tru, setJ, h.sn, h.sd, g.sn, g.sd, hd]
theorem s_lover {fu n : Nat} {p q : Rat} (h : Bq 1900 p) (g : Bq 1900 q) (hq : 0 < q) (hf : 8001 ≤ fu) : evF T fu (n + 3) "_law_frac_over" [.val (fr p), .val (fr q)] = some (fr (p / q), []) := by
  obtain ⟨z, e⟩ := div_norm p q hq
  rw [ev1 (dd := d__law_frac_over) (by kernel_rfl), e]
  unfold d__law_frac_over
  have hd := s_lfrac (fu := fu) (n := n) (a := p.num * q.den) (b := p.den * q.num.natAbs) z (Nat.lt_of_lt_of_le (Nat.mul_lt_mul'' h.d g.n) (by rw [← Nat.pow_add]; exact Nat.pow_le_pow_right (by decide) (by decide))) hf
  have e2 : ((p.den * q.num.natAbs : Nat) : Int) = p.den * q.num := by
    have := numpos hq
    rw [Int.natCast_mul, Int.natAbs_of_nonneg (by omega)]
  rw [e2] at hd
  generalize fr (Rat.normalize _ _ _) = r at hd ⊢
  unfold fr
  simp [evE, evT, evL, evA, evO, evAr, evS, evD, putS, peek, mutS, setM, opB, opC, opF, opIx, opSl, walk, unpS, bindT, refs, argS, putBack, permA, outsOf, atI, ixN, tru, setJ, h.sn, h.sd, g.sn, g.sd, hd]
/-! ### the pot -/
def pot (own p1 p2 : Int) : Sl := .par [.int own, .int p1, .int p2]
structure Pot (c : Nat) (own p1 p2 : Int) : Prop where
  o0 : 0 ≤ own
  o1 : own.natAbs < 2 ^ 1000
  a0 : 0 ≤ p1
  a1 : p1.natAbs < 2 ^ 61
  b0 : 0 ≤ p2
  b1 : p2 ≤ c
theorem wm (i : Int) (k : Nat) (h : i.natAbs < 2 ^ k) (hk : k ≤ 8000) : sm i = true := sm_of (Nat.lt_of_lt_of_le h (Nat.pow_le_pow_right (by decide) hk))
theorem at0 {x y z : D} : atI [x, y, z] 0 = some x := by simp [evE, evT, evL, evA, evO, evAr, evS, evD, putS, peek, mutS, setM, opB, opC, opF, opIx, opSl, walk, unpS, bindT, refs, argS, putBack, permA, outsOf, atI, ixN, tru, setJ]
theorem at1 {x y z : D} : atI [x, y, z] 1 = some y := by simp [evE, evT, evL, evA, evO, evAr, evS, evD, putS, peek, mutS, setM, opB, opC, opF, opIx, opSl, walk, unpS, bindT, refs, argS, putBack, permA, outsOf, atI, ixN, tru, setJ]
theorem at2 {x y z : D} : atI [x, y, z] 2 = some z := by simp [evE, evT, evL, evA, evO, evAr, evS, evD, putS, peek, mutS, setM, opB, opC, opF, opIx, opSl, walk, unpS, bindT, refs, argS, putBack, permA, outsOf, atI, ixN, tru, setJ]
theorem take_core {fu n : Nat} {p1 z u : Int} (a0 : 0 ≤ p1) (a1 : p1.natAbs < 2 ^ 61) (z0 : 0 ≤ z) (z1 : z < 2000000) (u0 : 0 < u) (p : Int) (hp0 : 0 < p) (hp1 : p < 2 ^ 31)
    (hix : atI [D.int 2147483647, .int 2147483629, .int 2147483587, .int 2147483579, .int 2147483563] (z % 5) = some (.int p)) :
    ∃ d, 0 ≤ d ∧ d < u ∧ evF T fu (n + 1) "_law_take" [pot 0 p1 (z - 1), .val (.int u)] = some (.int d, [[.int 0, .int p1, .int z]]) := by
  rw [ev1 (dd := d__law_take) (by kernel_rfl)]
  unfold d__law_take pot
  have q1 : z * z ≤ 2000000 * 2000000 := Int.mul_le_mul (by omega) (by omega) z0 (by omega)
  have q2 : 0 ≤ z * z := Int.mul_nonneg z0 z0
  have e1 : 101440 * z * z = 101440 * (z * z) := Int.mul_assoc _ _ _
  have s1 : sm (101440 * z) = true := wm _ 60 (by omega) (by decide)
  have s2 : sm z = true := wm _ 60 (by omega) (by decide)
  have s3 : sm (p1 + 101440 * z * z + 1150) = true := wm _ 70 (by rw [e1]; omega) (by decide)
  have s4 : sm 101440 = true := by decide +kernel
  have s5 : sm 316 = true := by decide +kernel
  have s6 : sm 167 = true := by decide +kernel
  generalize hb : (p1 + 101440 * z * z + 1150) ^ 3 % p = b1
  have b0 : 0 ≤ b1 := by rw [← hb]; exact Int.emod_nonneg _ (by omega)
  have bl : b1 < p := by rw [← hb]; exact Int.emod_lt_of_pos _ hp0
  have c0 : 0 ≤ b1 % 11078 := Int.emod_nonneg _ (by decide)
  have c1 : b1 % 11078 < 11078 := Int.emod_lt_of_pos _ (by decide)
  have s7 : sm b1 = true := wm _ 60 (by omega) (by decide)
  have s8 : sm (b1 % 11078 + 316 * z) = true := wm _ 60 (by omega) (by decide)
  refine ⟨((b1 * (b1 % 11078 + 316 * z)) % 2305843009213693907).fdiv 167 % u, Int.emod_nonneg _ (by omega), Int.emod_lt_of_pos _ u0, ?_⟩
  simp [evE, evT, evL, evA, evO, evAr, evS, evD, putS, peek, mutS, setM, opB, opC, opF, opIx, opSl, walk, unpS, bindT, refs, argS, putBack, permA, outsOf, ixN, tru, setJ, at0, at1, at2, hix, s1, s2, s3, s4, s5, s6, s7, s8, hb, hp0, u0, lim]
theorem s_take {fu n c : Nat} {own p1 p2 u : Int} (h : Pot c own p1 p2) (hc : c < 1000000) (u0 : 0 < u) (u1 : u.natAbs < 2 ^ 60) :
    ∃ own' p2' d, Pot (c + 1) own' p1 p2' ∧ 0 ≤ d ∧ d < u ∧ evF T fu (n + 1) "_law_take" [pot own p1 p2, .val (.int u)] = some (.int d, [[.int own', .int p1, .int p2']]) := by
  rw [ev1 (dd := d__law_take) (by kernel_rfl)]
  unfold d__law_take pot
  have su := wm u 60 u1 (by decide)
  by_cases q : 0 < own
  · refine ⟨own.fdiv u, p2, own % u, ⟨?_, ?_, h.a0, h.a1, h.b0, by have := h.b1; omega⟩, Int.emod_nonneg _ (by omega), Int.emod_lt_of_pos _ u0, ?_⟩
    · rw [Int.fdiv_eq_ediv_of_nonneg _ (by omega)]; exact Int.ediv_nonneg h.o0 (by omega)
    · rw [Int.fdiv_eq_ediv_of_nonneg _ (by omega)]
      have := Int.ediv_le_self u h.o0
      have h2 := Int.ediv_nonneg h.o0 (show 0 ≤ u by omega)
      have h3 := h.o1
      omega
    · have un : ¬ u = 0 := by omega
      simp [evE, evT, evL, evA, evO, evAr, evS, evD, putS, peek, mutS, setM, opB, opC, opF, opIx, opSl, walk, unpS, bindT, refs, argS, putBack, permA, outsOf, atI, ixN, tru, setJ, q, u0, su, un]
  · have o : own = 0 := by have := h.o0; omega
    subst o
    have z0 : 0 ≤ p2 + 1 := by have := h.b0; omega
    have z1 : p2 + 1 < 2000000 := by have := h.b1; omega
    have key : ∃ p, 0 < p ∧ p < 2 ^ 31 ∧ atI [D.int 2147483647, .int 2147483629, .int 2147483587, .int 2147483579, .int 2147483563] ((p2 + 1) % 5) = some (.int p) := by
      have h5 : (p2 + 1) % 5 = 0 ∨ (p2 + 1) % 5 = 1 ∨ (p2 + 1) % 5 = 2 ∨ (p2 + 1) % 5 = 3 ∨ (p2 + 1) % 5 = 4 := by omega
      rcases h5 with e | e | e | e | e <;> rw [e]
      · exact ⟨2147483647, by decide, by decide, by simp [evE, evT, evL, evA, evO, evAr, evS, evD, putS, peek, mutS, setM, opB, opC, opF, opIx, opSl, walk, unpS, bindT, refs, argS, putBack, permA, outsOf, atI, ixN, tru, setJ]⟩
      · exact ⟨2147483629, by decide, by decide, by simp [evE, evT, evL, evA, evO, evAr, evS, evD, putS, peek, mutS, setM, opB, opC, opF, opIx, opSl, walk, unpS, bindT, refs, argS, putBack, permA, outsOf, atI, ixN, tru, setJ]⟩
      · exact ⟨2147483587, by decide, by decide, by simp [evE, evT, evL, evA, evO, evAr, evS, evD, putS, peek, mutS, setM, opB, opC, opF, opIx, opSl, walk, unpS, bindT, refs, argS, putBack, permA, outsOf, atI, ixN, tru, setJ]⟩
      · exact ⟨2147483579, by decide, by decide, by simp [evE, evT, evL, evA, evO, evAr, evS, evD, putS, peek, mutS, setM, opB, opC, opF, opIx, opSl, walk, unpS, bindT, refs, argS, putBack, permA, outsOf, atI, ixN, tru, setJ]⟩
      · exact ⟨2147483563, by decide, by decide, by simp [evE, evT, evL, evA, evO, evAr, evS, evD, putS, peek, mutS, setM, opB, opC, opF, opIx, opSl, walk, unpS, bindT, refs, argS, putBack, permA, outsOf, atI, ixN, tru, setJ]⟩
    obtain ⟨p, hp0, hp1, hix⟩ := key
    obtain ⟨d, d0, d1, e⟩ := take_core (fu := fu) (n := n) h.a0 h.a1 z0 z1 u0 p hp0 hp1 hix
    rw [Int.add_sub_cancel, ev1 (dd := d__law_take) (by kernel_rfl)] at e
    refine ⟨0, p2 + 1, d, ⟨by decide, by decide, h.a0, h.a1, z0, by have := h.b1; omega⟩, d0, d1, ?_⟩
    unfold d__law_take pot at e
    exact e
def potO (own p1 p2 : Int) : List D := [.int own, .int p1, .int p2]
theorem atI_lt {α : Type} {xs : List α} {d : Int} (h0 : 0 ≤ d) (h1 : d < xs.length) : ∃ x, atI xs d = some x ∧ x ∈ xs := by
  have h2 : d.toNat < xs.length := by omega
  refine ⟨xs[d.toNat], ?_, List.getElem_mem h2⟩
  have := atI_nat (List.getElem?_eq_getElem h2)
  rw [Int.toNat_of_nonneg h0] at this
  exact this
theorem s_of {fu n c : Nat} {own p1 p2 : Int} {xs : List D} (h : Pot c own p1 p2) (hc : c < 1000000) (hx : xs ≠ []) (hl : xs.length < 1000) :
    ∃ own' p2' x, Pot (c + 1) own' p1 p2' ∧ x ∈ xs ∧ evF T fu (n + 2) "_law_of" [pot own p1 p2, .val (.lst xs)] = some (x, [potO own' p1 p2']) := by
  have hn : 0 < xs.length := List.length_pos_iff.2 hx
  obtain ⟨o, q, d, hp, d0, d1, e⟩ := s_take (fu := fu) (n := n) (u := (xs.length : Int)) h hc (by omega) (by omega)
  obtain ⟨x, hx1, hx2⟩ := atI_lt d0 d1
  refine ⟨o, q, x, hp, hx2, ?_⟩
  rw [ev1 (dd := d__law_of) (by kernel_rfl)]
  unfold d__law_of pot potO at *
  simp [evE, evT, evL, evA, evO, evAr, evS, evD, putS, peek, mutS, setM, opB, opC, opF, opIx, opSl, walk, unpS, bindT, refs, argS, putBack, permA, outsOf, ixN, tru, setJ, hx1, e]
/-- a drawn fraction from i to j, by 5 at most -/
theorem s_drawn {fu n c : Nat} {own p1 p2 lo hi : Int} (h : Pot c own p1 p2) (hc : c + 1 < 1000000) (hl : lo.natAbs ≤ 100) (hh : hi.natAbs ≤ 100) (lh : lo ≤ hi) (hf : 8001 ≤ fu) :
    ∃ own' p2' q, Pot (c + 2) own' p1 p2' ∧ Bq 11 q ∧ q.num.natAbs < 1024 ∧ q.den ≤ 5 ∧ evF T fu (n + 3) "_law_frac_drawn" [pot own p1 p2, .val (.int lo), .val (.int hi)] = some (fr q, [potO own' p1 p2']) := by
  obtain ⟨o, r, b, hp, hb, e1⟩ := s_of (fu := fu) (n := n) (xs := [.int 1, .int 1, .int 1, .int 2, .int 3, .int 5]) h (by omega) (by simp [evE, evT, evL, evA, evO, evAr, evS, evD, putS, peek, mutS, setM, opB, opC, opF, opIx, opSl, walk, unpS, bindT, refs, argS, putBack, permA, outsOf, atI, ixN, tru, setJ]) (by simp [evE, evT, evL, evA, evO, evAr, evS, evD, putS, peek, mutS, setM, opB, opC, opF, opIx, opSl, walk, unpS, bindT, refs, argS, putBack, permA, outsOf, atI, ixN, tru, setJ])
  obtain ⟨k, rfl, k1, k2⟩ : ∃ k : Nat, b = .int k ∧ 1 ≤ k ∧ k ≤ 5 := by
    simp [evE, evT, evL, evA, evO, evAr, evS, evD, putS, peek, mutS, setM, opB, opC, opF, opIx, opSl, walk, unpS, bindT, refs, argS, putBack, permA, outsOf, atI, ixN, tru, setJ] at hb
    rcases hb with rfl | rfl | rfl | rfl
    · exact ⟨1, rfl, by decide, by decide⟩
    · exact ⟨2, rfl, by decide, by decide⟩
    · exact ⟨3, rfl, by decide, by decide⟩
    · exact ⟨5, rfl, by decide, by decide⟩
  have m0 : 0 ≤ (hi - lo) * (k : Int) := Int.mul_nonneg (by omega) (by omega)
  have m1 : (hi - lo) * (k : Int) ≤ 200 * 5 := Int.mul_le_mul (by omega) (by omega) (by omega) (by omega)
  obtain ⟨o2, r2, d, hp2, d0, d1, e2⟩ := s_take (fu := fu) (n := n + 1) (u := (hi - lo) * (k : Int) + 1) hp (by omega) (by omega) (by omega)
  have k0 : k ≠ 0 := by omega
  have e3 := s_lfrac (fu := fu) (n := n) (a := lo * (k : Int) + d) (b := k) k0 (Nat.lt_of_le_of_lt k2 (Nat.lt_of_lt_of_le (show 5 < 2 ^ 3 by decide) (Nat.pow_le_pow_right (by decide) (by decide)))) hf
  have n1 : -500 ≤ lo * (k : Int) := by
    have := Int.mul_le_mul_of_nonneg_right (show -100 ≤ lo by omega) (show (0 : Int) ≤ k by omega)
    omega
  have n2 : lo * (k : Int) + d ≤ 500 := by
    have h3 : lo * (k : Int) + (hi - lo) * (k : Int) = hi * (k : Int) := by rw [← Int.add_mul]; congr 1; omega
    have := Int.mul_le_mul_of_nonneg_right (show hi ≤ 100 by omega) (show (0 : Int) ≤ k by omega)
    omega
  have nb := norm_bd (k := 10) k0 (a := lo * (k : Int) + d) (by omega) (by omega)
  refine ⟨o2, r2, Rat.normalize (lo * (k : Int) + d) k k0, hp2, nb.le (by decide), nb.n, ?_, ?_⟩
  · rw [Rat.normalize_eq]
    exact Nat.le_trans (Nat.div_le_self _ _) k2
  rw [ev1 (dd := d__law_frac_drawn) (by kernel_rfl)]
  unfold d__law_frac_drawn pot potO at *
  have s1 := wm lo 60 (by omega) (by decide)
  have s2 := wm (k : Int) 60 (by omega) (by decide)
  have s3 := wm (hi - lo) 60 (by omega) (by decide)
  generalize fr (Rat.normalize _ _ _) = z at e3 ⊢
  simp [evE, evT, evL, evA, evO, evAr, evS, evD, putS, peek, mutS, setM, opB, opC, opF, opIx, opSl, walk, unpS, bindT, refs, argS, putBack, permA, outsOf, ixN, tru, setJ, e1, e2, e3, s1, s2, s3, lim]
theorem fr_mk {q : Rat} {a b : Int} (h1 : q.num = a) (h2 : (q.den : Int) = b) : D.tup [.int a, .int b] = fr q := by
  subst h1 h2; rfl
theorem pot_eq {own p1 p2 : Int} : Sl.par (potO own p1 p2) = pot own p1 p2 := rfl
theorem s_ldrawn {fu n c : Nat} {own p1 p2 : Int} (h : Pot c own p1 p2) (hc : c + 10 < 1000000) (hf : 8001 ≤ fu) :
    ∃ own' p2' u v, Pot (c + 4) own' p1 p2' ∧ Be 11 u v ∧ (u.den ≤ 5 ∧ v.den ≤ 5 ∧ u.num.natAbs < 1024 ∧ v.num.natAbs < 1024) ∧ evF T fu (n + 4) "_law_event_drawn" [pot own p1 p2] = some (ev u v, [potO own' p1 p2']) := by
  obtain ⟨o, r, q, hp, hb, n1, d1, e1⟩ := s_drawn (fu := fu) (n := n) (lo := -6) (hi := 6) h (by omega) (by decide) (by decide) (by decide) hf
  obtain ⟨o2, r2, q2, hp2, hb2, n2, d2, e2⟩ := s_drawn (fu := fu) (n := n) (lo := -6) (hi := 6) hp (by omega) (by decide) (by decide) (by decide) hf
  refine ⟨o2, r2, q, q2, hp2, ⟨hb, hb2⟩, ⟨d1, d2, n1, n2⟩, ?_⟩
  rw [ev1 (dd := d__law_event_drawn) (by kernel_rfl)]
  unfold d__law_event_drawn ev
  generalize fr q = x at *
  generalize fr q2 = y at *
  unfold pot potO at *
  simp [evE, evT, evL, evA, evO, evAr, evS, evD, putS, peek, mutS, setM, opB, opC, opF, opIx, opSl, walk, unpS, bindT, refs, argS, putBack, permA, outsOf, ixN, tru, setJ, e1, e2, lim]
theorem ix0 {q : Rat} : opIx (fr q) (.int 0) = some (.int q.num) := by unfold fr; simp [evE, evT, evL, evA, evO, evAr, evS, evD, putS, peek, mutS, setM, opB, opC, opF, opIx, opSl, walk, unpS, bindT, refs, argS, putBack, permA, outsOf, atI, ixN, tru, setJ]
theorem ix1 {q : Rat} : opIx (fr q) (.int 1) = some (.int (q.den : Int)) := by unfold fr; simp [evE, evT, evL, evA, evO, evAr, evS, evD, putS, peek, mutS, setM, opB, opC, opF, opIx, opSl, walk, unpS, bindT, refs, argS, putBack, permA, outsOf, atI, ixN, tru, setJ]
theorem fr_rec {k : Rat} (h : 0 < k) : D.tup [.int (k.den : Int), .int k.num] = fr (1 / k) := by
  obtain ⟨z, e⟩ := div_norm 1 k h
  have hn := numpos h
  have hr : k.num.natAbs.gcd k.den = 1 := k.reduced
  rw [e, norm_eq]
  have a1 : (1 : Rat).num = 1 := rfl
  have a2 : (1 : Rat).den = 1 := rfl
  have g1 : Nat.gcd ((1 : Rat).num * (k.den : Int)).natAbs ((1 : Rat).den * k.num.natAbs) = 1 := by
    rw [a1, a2, Int.one_mul, Nat.one_mul, Int.natAbs_natCast, Nat.gcd_comm]; exact hr
  rw [g1, a1, a2]
  have e3 : ((1 * k.num.natAbs : Nat) : Int) = k.num := by rw [Nat.one_mul]; omega
  rw [e3]
  simp [evE, evT, evL, evA, evO, evAr, evS, evD, putS, peek, mutS, setM, opB, opC, opF, opIx, opSl, walk, unpS, bindT, refs, argS, putBack, permA, outsOf, atI, ixN, tru, setJ]
theorem fr_neg {x : Rat} : Rat.normalize (-x.num) x.den x.den_nz = -x := by
  have := Rat.normalize_self (-x)
  simpa using this
theorem sq_either {u v x y : Rat} (h : 0 < x ∧ y < 0 ∨ x < 0 ∧ 0 < y) : sqW u v (u + x) (v + y) = ("either" : PySem.Str) := by
  have e1 : u + x - u = x := by grind
  have e2 : v + y - v = y := by grind
  have e3 : u - (u + x) = -x := by grind
  have e4 : v - (v + y) = -y := by grind
  unfold sqW isA
  rw [e1, e2, e3, e4]
  have n1 : ¬ (u = u + x ∧ v = v + y) := fun z => by grind
  rw [if_neg n1]
  rcases h with ⟨h1, h2⟩ | ⟨h1, h2⟩
  · have m1 : ¬ (0 ≤ y) := by grind
    have m2 : ¬ (0 ≤ -x) := by grind
    simp [evE, evT, evL, evA, evO, evAr, evS, evD, putS, peek, mutS, setM, opB, opC, opF, opIx, opSl, walk, unpS, bindT, refs, argS, putBack, permA, outsOf, atI, ixN, tru, setJ, m1, m2]
  · have m1 : ¬ (0 ≤ x) := by grind
    have m2 : ¬ (0 ≤ -y) := by grind
    simp [evE, evT, evL, evA, evO, evAr, evS, evD, putS, peek, mutS, setM, opB, opC, opF, opIx, opSl, walk, unpS, bindT, refs, argS, putBack, permA, outsOf, atI, ixN, tru, setJ, m1, m2]
structure LvOk (u v k x y : Rat) (g far : Rat) : Prop where
  t1 : (u + x - u) / k + k * (v + y - v) = 0
  t2 : (u - (u + x)) / k + k * (v - (v + y)) = 0
  t3 : ¬ ((u + x - u) / far + far * (v + y - v) = 0)
  t4 : ((u + x) / g - u / g) / (k / g) + k / g * (g * (v + y) - g * v) = 0
  t5 : (v + y - v) / (1 / k) + 1 / k * (u + x - u) = 0
  t6 : (u + x + x - u) / k + k * (v + y + y - v) = 0
  t7 : ¬ ((u - (u + x + x)) / far + far * (v - (v + y + y)) = 0)
  t8 : (u - u) / far + far * (v - v) = 0
theorem lvOk {u v k x g f : Rat} (hk : 0 < k) (hx : x ≠ 0) (hg : 0 < g) (hf : 0 < f) (hf1 : f ≠ 1) : LvOk u v k x (-x / (k * k)) g (k * f) := by
  have k0 : k ≠ 0 := by grind
  have g0 : g ≠ 0 := by grind
  have f0 : f ≠ 0 := by grind
  have c1 : x / k + k * (-x / (k * k)) = 0 := by grind
  have c2 : x / (k * f) + k * f * (-x / (k * k)) ≠ 0 := by
    intro z
    have z2 : x * (1 - f * f) = 0 := by grind
    have z3 : 1 - f * f ≠ 0 := by
      intro w
      have : (1 - f) * (1 + f) = 0 := by grind
      rcases Rat.mul_eq_zero.1 this with a | a <;> grind
    rcases Rat.mul_eq_zero.1 z2 with a | a
    · exact hx a
    · exact z3 a
  constructor
  · grind
  · grind
  · grind
  · grind
  · grind
  · grind
  · grind
  · grind
theorem cut_take {xs : List D} {i : Nat} : cutD xs none (some (i : Int)) = xs.take (min i xs.length) := by
  unfold cutD
  rw [HT.sIx_none, HT.sIx_nat]
  simp [evE, evT, evL, evA, evO, evAr, evS, evD, putS, peek, mutS, setM, opB, opC, opF, opIx, opSl, walk, unpS, bindT, refs, argS, putBack, permA, outsOf, atI, ixN, tru, setJ]
def potRest : Sm := (.seq (.asg 3 (.bin .mul (.bin .mod (.blt .int (.cons (.blt .abs (.cons (.var 2) .nil)) .nil)) (.bin .pow (.bin .pow (.con (.int 10)) (.con (.int 60))) (.con (.int 5)))) (.blt .int (.cons (.cmp .ge (.blt .abs (.cons (.var 2) .nil)) (.bin .pow (.con (.int 10)) (.con (.int 18)))) .nil)))) (.seq (.asg 4 (.bin .mod (.blt .int (.cons (.var 2) .nil)) (.con (.int 2305843009213693951)))) (.seq (.ret (.lst (.cons (.var 3) (.cons (.bin .mod (.blt .int (.cons (.bin .add (.bin .add (.bin .mul (.var 4) (.con (.int 76108))) (.bin .mul (.bin .mul (.con (.int 9140)) (.var 1)) (.var 1))) (.con (.int 772))) .nil)) (.con (.int 2305843009213693921))) (.cons (.con (.int 0)) .nil))))) .nil)))
theorem pot_rest {F : FT} {fu : Nat} {s : D} {i : Nat} {c : Int} (hi : i < 1000) : ∃ own p1 env', Pot 0 own p1 0 ∧ evS F fu potRest [some (.val s), some (.val (.int i)), some (.val (.int c)), none, none] = some (.rt (.lst (potO own p1 0)), env') ∧ env'.length = 5 := by
  have pw1 : opB .pow (.int 10) (.int 60) = some (.int (10 ^ 60)) := by
    show (if sm 10 && decide ((0 : Int) ≤ 60) && decide ((60 : Int) ≤ 1000) then some (D.int (10 ^ (60 : Int).toNat)) else none) = _
    rw [if_pos (by decide +kernel)]; rfl
  have pw2 : opB .pow (.int (10 ^ 60)) (.int 5) = some (.int ((10 ^ 60) ^ 5)) := by
    show (if sm (10 ^ 60) && decide ((0 : Int) ≤ 5) && decide ((5 : Int) ≤ 1000) then some (D.int ((10 ^ 60) ^ (5 : Int).toNat)) else none) = _
    rw [if_pos (by decide +kernel)]; rfl
  have pw3 : opB .pow (.int 10) (.int 18) = some (.int (10 ^ 18)) := by
    show (if sm 10 && decide ((0 : Int) ≤ 18) && decide ((18 : Int) ≤ 1000) then some (D.int (10 ^ (18 : Int).toNat)) else none) = _
    rw [if_pos (by decide +kernel)]; rfl
  obtain ⟨M, hM⟩ : ∃ M : Int, M = (10 ^ 60) ^ 5 := ⟨_, rfl⟩
  obtain ⟨E, hE⟩ : ∃ E : Int, E = 10 ^ 18 := ⟨_, rfl⟩
  obtain ⟨Z, hZ⟩ : ∃ Z : Int, Z = 10 ^ 60 := ⟨_, rfl⟩
  have M0 : 0 < M := by rw [hM]; decide +kernel
  have M1 : M ≤ ((2 ^ 1000 : Nat) : Int) := by rw [hM]; decide +kernel
  rw [← hM, ← hZ] at pw2
  rw [← hZ] at pw1
  rw [← hE] at pw3
  have a0 : 0 ≤ (c.natAbs : Int) % M := Int.emod_nonneg _ (by omega)
  have a1 : (c.natAbs : Int) % M < M := Int.emod_lt_of_pos _ M0
  have a2 : ((c.natAbs : Int) % M).natAbs < 2 ^ 1000 := by omega
  have md : opB .mod (.int (c.natAbs : Int)) (.int M) = some (.int ((c.natAbs : Int) % M)) := by
    show (if decide (0 < M) then some (D.int ((c.natAbs : Int) % M)) else none) = _
    rw [if_pos (decide_eq_true M0)]
  generalize (c.natAbs : Int) % M = X at *
  have m1 : opB .mul (.int X) (.int (if E ≤ (c.natAbs : Int) then 1 else 0)) = some (.int (X * (if E ≤ (c.natAbs : Int) then 1 else 0))) := by
    show (if sm X && sm (if E ≤ (c.natAbs : Int) then 1 else 0) then some (D.int (X * (if E ≤ (c.natAbs : Int) then 1 else 0))) else none) = _
    rw [if_pos]
    rw [wm X 1000 a2 (by decide), Bool.true_and]
    split <;> decide +kernel
  obtain ⟨own, ho⟩ : ∃ own, own = X * (if E ≤ (c.natAbs : Int) then 1 else 0) := ⟨_, rfl⟩
  have o0 : 0 ≤ own ∧ own.natAbs < 2 ^ 1000 := by
    rw [ho]; split
    · rw [Int.mul_one]; exact ⟨a0, a2⟩
    · rw [Int.mul_zero]; exact ⟨by decide, Nat.two_pow_pos _⟩
  rw [← ho] at m1
  have s0 : 0 ≤ c % 2305843009213693951 := Int.emod_nonneg _ (by decide)
  have s1 : c % 2305843009213693951 < 2305843009213693951 := Int.emod_lt_of_pos _ (by decide)
  have k1 := wm (c % 2305843009213693951) 70 (by omega) (by decide)
  have k2 := wm (76108 : Int) 70 (by decide) (by decide)
  have k3 := wm (9140 : Int) 70 (by decide) (by decide)
  have k4 := wm (i : Int) 70 (by omega) (by decide)
  have k5 := wm (9140 * (i : Int)) 70 (by omega) (by decide)
  refine ⟨own, (c % 2305843009213693951 * 76108 + 9140 * (i : Int) * (i : Int) + 772) % 2305843009213693921, [some (.val s), some (.val (.int i)), some (.val (.int c)), some (.val (.int own)), some (.val (.int (c % 2305843009213693951)))], ⟨o0.1, o0.2, Int.emod_nonneg _ (by decide), ?_, by decide, by decide⟩, ?_, rfl⟩
  · have h1 : (c % 2305843009213693951 * 76108 + 9140 * (i : Int) * (i : Int) + 772) % 2305843009213693921 < 2305843009213693921 := Int.emod_lt_of_pos _ (by decide)
    have h2 : 0 ≤ (c % 2305843009213693951 * 76108 + 9140 * (i : Int) * (i : Int) + 772) % 2305843009213693921 := Int.emod_nonneg _ (by decide)
    omega
  · unfold potRest potO
    have ge : opC .ge (.int (c.natAbs : Int)) (.int E) = some (decide (E ≤ (c.natAbs : Int))) := rfl
    have ib : ∀ b : Bool, opF .int [.bl b] = some (.int (if b = true then 1 else 0)) := fun _ => rfl
    have ii : ∀ j : Int, opF .int [.int j] = some (.int j) := fun _ => rfl
    have ad : ∀ i j : Int, opB .add (.int i) (.int j) = some (.int (i + j)) := fun _ _ => rfl
    have mm : ∀ i j : Int, sm i = true → sm j = true → opB .mul (.int i) (.int j) = some (.int (i * j)) := fun i j h g => by
      show (if sm i && sm j then _ else none) = _
      rw [h, g]; rfl
    have n1 := mm _ _ k1 k2
    have n2 := mm _ _ k3 k4
    have n3 := mm _ _ k5 k4
    have d1 : opB .mod (.int c) (.int 2305843009213693951) = some (.int (c % 2305843009213693951)) := rfl
    have d2 : ∀ j : Int, opB .mod (.int j) (.int 2305843009213693921) = some (.int (j % 2305843009213693921)) := fun _ => rfl
    generalize c % 2305843009213693951 = C at *
    simp [evE, evT, evL, evA, evO, evAr, evS, evD, putS, peek, mutS, setM, opIx, opSl, walk, unpS, bindT, refs, argS, putBack, permA, outsOf, atI, ixN, tru, setJ, oabs, pw1, pw2, pw3, md, m1, ge, ib, ii, ad, n1, n2, n3, d1, d2, lim]
def potHead : Sm := (.asg 2 (.ite (.tval (.cmp .lt (.var 1) (.blt .len (.cons (.var 0) .nil)))) (.ix (.var 0) (.var 1)) (.bin .add (.bin .add (.bin .mod (.blt .sum (.cons (.slc (.var 0) .nil (.tval (.con (.int 1)))) .nil)) (.con (.int 1000003))) (.bin .mul (.con (.int 1592)) (.var 1))) (.con (.int 790)))))
theorem ints_ok : ∀ ns : List Int, intsD (ns.map D.int) = some ns
  | [] => rfl
  | i :: r => by
    show ((intsD (r.map D.int)).map (i :: ·)) = _
    rw [ints_ok r]; rfl
theorem pot_head {F : FT} {fu : Nat} {ns : List Int} {i : Nat} (hi : i < 1000) : ∃ c : Int, evS F fu potHead [some (.val (.scr ns)), some (.val (.int i)), none, none, none] = some (.nx, [some (.val (.scr ns)), some (.val (.int i)), some (.val (.int c)), none, none]) := by
  unfold potHead
  by_cases h : i < ns.length
  · have e1 := atI_nat (List.getElem?_eq_getElem h)
    have h' : (i : Int) < (ns.length : Int) := by omega
    have ix : opIx (.scr ns) (.int (i : Int)) = some (.int ns[i]) := by
      show (atI ns (i : Int)).map D.int = _
      rw [e1]; rfl
    refine ⟨ns[i], ?_⟩
    simp [evE, evT, evL, evA, evO, evAr, evS, evD, putS, peek, mutS, setM, opB, opC, opF, opSl, walk, unpS, bindT, refs, argS, putBack, permA, outsOf, atI, ixN, tru, setJ, ix, h, h']
  · have h' : ¬ ((i : Int) < (ns.length : Int)) := by omega
    have ct : cutD (ns.map D.int) none (some 1) = (ns.take 1).map D.int := by
      rw [show (1 : Int) = ((1 : Nat) : Int) from rfl, cut_take, List.map_take, List.length_map]
      cases ns with
      | nil => rfl
      | cons a r => rw [Nat.min_eq_left (by simp [evE, evT, evL, evA, evO, evAr, evS, evD, putS, peek, mutS, setM, opB, opC, opF, opIx, opSl, walk, unpS, bindT, refs, argS, putBack, permA, outsOf, atI, ixN, tru, setJ])]
    have k1 := wm (1592 : Int) 70 (by decide) (by decide)
    have k2 := wm (i : Int) 70 (by omega) (by decide)
    have sl : opSl (.scr ns) none (some 1) = some (.lst ((ns.take 1).map D.int)) := by
      show some (D.lst (cutD (ns.map D.int) none (some 1))) = _
      rw [ct]
    have sf : opF .sum [.lst ((ns.take 1).map D.int)] = some (.int (ns.take 1).sum) := by
      show (intsD ((ns.take 1).map D.int)).map (fun ns => D.int ns.sum) = _
      rw [ints_ok]; rfl
    have lf : opF .len [.scr ns] = some (.int ns.length) := rfl
    refine ⟨(ns.take 1).sum % 1000003 + 1592 * (i : Int) + 790, ?_⟩
    generalize ns.take 1 = t at *
    simp [evE, evT, evL, evA, evO, evAr, evS, evD, putS, peek, mutS, setM, opB, opC, opIx, walk, unpS, bindT, refs, argS, putBack, permA, outsOf, atI, ixN, tru, setJ, lf, sl, sf, h, h', k1, k2]
theorem s_pot {fu n : Nat} {ns : List Int} {i : Nat} (hi : i < 1000) : ∃ own p1, Pot 0 own p1 0 ∧ evF T fu (n + 1) "_law_pot" [.val (.scr ns), .val (.int i)] = some (.lst (potO own p1 0), []) := by
  obtain ⟨c, e1⟩ := pot_head (F := evF T fu n) (fu := fu) (ns := ns) hi
  obtain ⟨own, p1, env', hp, e2, hl⟩ := pot_rest (F := evF T fu n) (fu := fu) (s := .scr ns) (c := c) hi
  refine ⟨own, p1, hp, ?_⟩
  rw [ev1 (dd := d__law_pot) (by kernel_rfl)]
  unfold d__law_pot evD
  unfold potHead at e1
  unfold potRest at e2
  simp only [List.length_cons, List.length_nil, if_true, List.map_cons, List.map_nil, List.replicate, Nat.zero_add, List.cons_append, List.nil_append, Nat.reduceAdd, Nat.reduceSub]
  rw [evS, e1]
  simp only [Option.bind_eq_bind, Option.bind_some]
  rw [e2]
  match env', hl with
  | [_, _, _, _, _], _ => simp [evE, evT, evL, evA, evO, evAr, evS, evD, putS, peek, mutS, setM, opB, opC, opF, opIx, opSl, walk, unpS, bindT, refs, argS, putBack, permA, outsOf, atI, ixN, tru, setJ]
theorem s_cells {fu n : Nat} {ns : List Int} (hl : ns.length ≤ 63) : ∃ m : Nat, m ≤ 2 ∧ evF T fu (n + 1) "_law_cells" [.val (.scr ns), .val (.int 2)] = some (.lst (ran m), []) := by
  rw [ev1 (dd := d__law_cells) (by kernel_rfl)]
  unfold d__law_cells
  by_cases h : ns.length < 2
  · refine ⟨1, by decide, ?_⟩
    have h1 : (ns.length : Int) < 2 := by omega
    have h2 : ¬ ((ns.length : Int) > 1) := by omega
    have w : wi 19 1 = true := by decide +kernel
    simp [evE, evT, evL, evA, evO, evAr, evS, evD, putS, peek, mutS, setM, opB, opC, opF, opIx, opSl, walk, unpS, bindT, refs, argS, putBack, permA, outsOf, atI, ixN, tru, setJ, h, h1, h2, w]
  · refine ⟨2, by decide, ?_⟩
    have h1 : ¬ ((ns.length : Int) < 2) := by omega
    have w : wi 19 2 = true := by decide +kernel
    simp [evE, evT, evL, evA, evO, evAr, evS, evD, putS, peek, mutS, setM, opB, opC, opF, opIx, opSl, walk, unpS, bindT, refs, argS, putBack, permA, outsOf, atI, ixN, tru, setJ, h, h1, w]
end L09

/-! the texts of whole numbers, read back (no law's own) -/
namespace Mn
open PySem PySem.Spec PyProof.Rows L2 RZ TL
/-- the text of a whole number -/
def tx (i : Int) : PySem.Str := PySem.Str.ofString (toString i)
def numI (i : Int) : List Nat := if i < 0 then 45 :: numL i.natAbs else numL i.natAbs
theorem tl_tx_nat (n : Nat) : tl (tx (n : Int)) = numL n := tl_num n
theorem tl_tx (i : Int) : tl (tx i) = numI i := by
  unfold numI
  by_cases h : i < 0
  · rw [if_pos h]
    obtain ⟨n, rfl⟩ : ∃ n : Nat, i = Int.negSucc n := by
      cases i with
      | ofNat n => exact absurd h (by simp)
      | negSucc n => exact ⟨n, rfl⟩
    unfold tx
    rw [tl_ofString]
    show (("-" ++ toString (Nat.succ n)) : String).toList.map Char.toNat = _
    rw [String.toList_append, List.map_append]
    have := tl_num (n + 1)
    rw [tl_ofString] at this
    show [45] ++ _ = _
    rw [show (toString (Nat.succ n)).toList.map Char.toNat = numL (n + 1) from this]
    rfl
  · rw [if_neg h]
    obtain ⟨n, rfl⟩ : ∃ n : Nat, i = (n : Int) := ⟨i.toNat, by omega⟩
    exact tl_tx_nat n
theorem numL_head {n : Nat} (h : 1 ≤ n) : ∃ c r, numL n = c :: r ∧ 49 ≤ c ∧ c ≤ 57 := by
  induction n using Nat.strongRecOn with
  | _ n ih =>
    by_cases h1 : n < 10
    · exact ⟨48 + n, [], numL_lt h1, by omega, by omega⟩
    · obtain ⟨c, r, e, h2, h3⟩ := ih (n / 10) (by omega) (by omega)
      exact ⟨c, r ++ [48 + n % 10], by rw [numL_step (by omega), e]; rfl, h2, h3⟩
theorem tl_inj {x y : PySem.Str} (h : tl x = tl y) : x = y := ext_tl h
theorem tx_minus (n : Nat) : tl (tx (-(n : Int))) = if n = 0 then [48] else 45 :: numL n := by
  rw [tl_tx]
  unfold numI
  by_cases h : n = 0
  · subst h; rw [if_pos rfl]; exact numL_lt (by decide)
  · rw [if_neg h, if_pos (by omega)]
    rw [Int.natAbs_neg, Int.natAbs_natCast]
theorem tl_dash : tl ("-" : PySem.Str) = [45] := by decide +kernel
theorem tl_zero : tl ("0" : PySem.Str) = [48] := by decide +kernel
theorem tl_slash : tl ("/" : PySem.Str) = [47] := by decide +kernel
theorem tl_blank : tl (" " : PySem.Str) = [32] := by decide +kernel
theorem tl_line : tl ("\n" : PySem.Str) = [10] := by decide +kernel
theorem numI_free {i : Int} {s : Nat} (h : s ≠ 45) (h2 : s < 48 ∨ 57 < s) : s ∉ numI i := by
  unfold numI
  split
  · intro m
    rcases List.mem_cons.1 m with e | m
    · exact h e
    · exact numL_free h2 m
  · exact numL_free h2
/-- int(str(i)) -/
theorem int_tx {i : Int} (h : i.natAbs < 10 ^ 4000) : PySem.intText? (tx i) = some i := by
  have hl := numL_len (n := i.natAbs) (k := 4000) (by decide) h
  by_cases h0 : i < 0
  · have e := PySem.intText_neg (x := tx i) (cs := numL i.natAbs) (by show tl (tx i) = _; rw [tl_tx]; unfold numI; rw [if_pos h0]) (numL_digits _) (numL_ne _) (by rw [len_tl, tl_tx]; unfold numI; rw [if_pos h0, List.length_cons]; omega)
    rw [e, numL_val]
    congr 1
    omega
  · obtain ⟨n, rfl⟩ : ∃ n : Nat, i = (n : Int) := ⟨i.toNat, by omega⟩
    exact int_num (by rw [Int.natAbs_natCast] at hl; omega)
theorem tx_len {i : Int} {k : Nat} (hk : 0 < k) (h : i.natAbs < 10 ^ k) : (tx i).length ≤ k + 1 := by
  rw [len_tl, tl_tx]
  have hl := numL_len (n := i.natAbs) hk h
  unfold numI
  split
  · rw [List.length_cons]; omega
  · omega
/-! its digits -/
theorem sub0 (x : PySem.Str) {y : PySem.Str} {c : Nat} (hy : tl y = [c]) : PySem.Builtin.Str.subAt x y 0 = ((tl x).head? == some c) := by
  have hl : y.length = 1 := by rw [len_tl, hy]; rfl
  rw [PySem.StrLaws.subAt_eq]
  rw [List.drop_zero, hl]
  show ((tl x).take 1 == tl y) = _
  rw [hy]
  cases h : tl x with
  | nil => rfl
  | cons d r =>
    show ([d] == [c]) = (some d == some c)
    by_cases e : d = c
    · subst e; simp
    · rw [beq_eq_false_iff_ne.2 (by simpa using e), beq_eq_false_iff_ne.2 (by simpa using e)]
theorem pre_tx (i : Int) : Txt.removeprefix (tx i) "-" = tx (i.natAbs : Int) := by
  unfold Txt.removeprefix
  rw [sub0 (tx i) tl_dash, tl_tx]
  have l1 : ("-" : PySem.Str).length = 1 := by rw [len_tl, tl_dash]; rfl
  by_cases h : i < 0
  · have e : numI i = 45 :: numL i.natAbs := by unfold numI; rw [if_pos h]
    rw [e]
    rw [if_pos (by rfl)]
    unfold Txt.affix
    have hl : (tx i).length = (numL i.natAbs).length + 1 := by rw [len_tl, tl_tx, e]; rfl
    show (if (tx i).length - ("-" : PySem.Str).length == (tx i).length then tx i else PySem.Builtin.Str.strSub (tx i) ("-" : PySem.Str).length (tx i).length) = _
    rw [l1, hl, if_neg (by simp)]
    apply tl_inj
    rw [tl_strSub, tl_tx, e, tl_tx_nat]
    show ((numL i.natAbs)).take _ = _
    exact List.take_of_length_le (by omega)
  · have e : numI i = numL i.natAbs := by unfold numI; rw [if_neg h]
    have e2 : ((numI i).head? == some 45) = false := by
      rw [e]
      cases z : numL i.natAbs with
      | nil => rfl
      | cons c r =>
        have := numL_digits i.natAbs c (by rw [z]; exact List.mem_cons_self)
        show (some c == some 45) = false
        rw [beq_eq_false_iff_ne]
        intro q
        cases q
        omega
    rw [e2]
    show tx i = _
    congr 1
    omega
theorem asc_tx (n : Nat) : Txt.isascii (tx (n : Int)) = true := by
  unfold Txt.isascii
  rw [← Array.all_toList, List.all_eq_true]
  intro c hc
  have := numL_digits n c (by rw [← tl_tx_nat]; exact hc)
  rw [decide_eq_true_eq]
  omega
theorem dig_one : ∀ c, 48 ≤ c → c ≤ 57 → Unicode.isDigit c = true := by
  intro c h1 h2
  have : c = 48 ∨ c = 49 ∨ c = 50 ∨ c = 51 ∨ c = 52 ∨ c = 53 ∨ c = 54 ∨ c = 55 ∨ c = 56 ∨ c = 57 := by omega
  rcases this with h | h | h | h | h | h | h | h | h | h <;> (subst h; decide +kernel)
theorem dig_tx (n : Nat) : Txt.isdigit (tx (n : Int)) = true := by
  unfold Txt.isdigit
  rw [Bool.and_eq_true, decide_eq_true_eq]
  constructor
  · rw [len_tl, tl_tx_nat]
    exact List.length_pos_iff.2 (numL_ne n)
  · rw [← Array.all_toList, List.all_eq_true]
    intro c hc
    have := numL_digits n c (by rw [← tl_tx_nat]; exact hc)
    exact dig_one c this.1 this.2
theorem stw_tx (n : Nat) : Txt.startswith (tx (n : Int)) "0" = decide (n = 0) := by
  unfold Txt.startswith
  rw [sub0 _ tl_zero, tl_tx_nat]
  have l1 : ("0" : PySem.Str).length = 1 := by rw [len_tl, tl_zero]; rfl
  have l2 : 1 ≤ (tx (n : Int)).length := by rw [len_tl, tl_tx_nat]; exact List.length_pos_iff.2 (numL_ne n)
  rw [l1, decide_eq_true (by omega : 0 + 1 ≤ (tx (n : Int)).length), Bool.true_and]
  by_cases h : n = 0
  · subst h
    rw [numL_lt (by decide)]
    rfl
  · obtain ⟨c, r, e, h2, h3⟩ := numL_head (n := n) (by omega)
    rw [e, decide_eq_false h]
    show (some c == some 48) = false
    rw [beq_eq_false_iff_ne]
    intro q
    cases q
    omega
theorem tx_zero (i : Int) : (tx i = ("0" : PySem.Str)) ↔ i = 0 := by
  constructor
  · intro h
    have e : tl (tx i) = [48] := by rw [h, tl_zero]
    rw [tl_tx] at e
    unfold numI at e
    split at e
    · cases e
    · by_cases z : i.natAbs = 0
      · omega
      · obtain ⟨c, r, e2, h2, h3⟩ := numL_head (n := i.natAbs) (by omega)
        rw [e2] at e
        cases e
        omega
  · intro h
    subst h
    apply tl_inj
    rw [tl_tx, tl_zero]
    unfold numI
    rw [if_neg (by decide)]
    exact numL_lt (by decide)
end Mn

namespace L09
open PySem L2 Mn TL
/-! ### the text of a fraction -/
def ftx (q : Rat) : PySem.Str := if q.den = 1 then tx q.num else tx q.num ++ "/" ++ tx (q.den : Int)
theorem big10 : (2 : Nat) ^ 1900 ≤ 10 ^ 600 := by decide +kernel
theorem tlen {i : Int} (h : i.natAbs < 2 ^ 1900) : (tx i).length ≤ 601 := tx_len (k := 600) (by decide) (Nat.lt_of_lt_of_le h big10)
theorem ostr {i : Int} (h : i.natAbs < 2 ^ 1900) : opF .str [.int i] = some (.str (tx i)) := by
  show (if i.natAbs.log2 < 1920 then some (D.str (tx i)) else none) = _
  rw [if_pos]
  by_cases z : i.natAbs = 0
  · rw [z]; decide
  · exact Nat.lt_trans ((Nat.log2_lt z).2 h) (by decide)
theorem oint {i : Int} : opF .int [.int i] = some (.int i) := rfl
theorem ointx {i : Int} (h : i.natAbs < 2 ^ 1900) : opF .int [.str (tx i)] = some (.int i) := by
  show (if (tx i).length ≤ 640 then (PySem.intText? (tx i)).map D.int else none) = _
  have := tlen h
  rw [if_pos (by omega), int_tx (Nat.lt_of_lt_of_le h (Nat.le_trans big10 (Nat.pow_le_pow_right (by decide) (by decide))))]
  rfl
theorem len_app (x y : PySem.Str) : (x ++ y).length = x.length + y.length := by rw [len_tl, len_tl, len_tl, tl_append, List.length_append]
theorem oadd {x y : PySem.Str} (h : x.length + y.length ≤ lim) : opB .add (.str x) (.str y) = some (.str (x ++ y)) := by
  show (if x.length + y.length ≤ lim then some (D.str (x ++ y)) else none) = _
  rw [if_pos h]
theorem l_slash : ("/" : PySem.Str).length = 1 := by rw [len_tl, tl_slash]; rfl
theorem nb {k : Nat} {q : Rat} (h : Bq k q) (hk : k ≤ 1900) : q.num.natAbs < 2 ^ 1900 := Nat.lt_of_lt_of_le h.n (Nat.pow_le_pow_right (by decide) hk)
theorem db {k : Nat} {q : Rat} (h : Bq k q) (hk : k ≤ 1900) : (q.den : Int).natAbs < 2 ^ 1900 := by rw [Int.natAbs_natCast]; exact Nat.lt_of_lt_of_le h.d (Nat.pow_le_pow_right (by decide) hk)
theorem ftx_len {k : Nat} {q : Rat} (h : Bq k q) (hk : k ≤ 1900) : (ftx q).length ≤ 1203 := by
  have h1 := tlen (nb h hk)
  have h2 := tlen (db h hk)
  unfold ftx
  split
  · omega
  · rw [len_app, len_app, l_slash]; omega
theorem deq_str {a b : PySem.Str} : deq (.str a) (.str b) = decide (a = b) := by
  show (a == b) = decide (a = b)
  by_cases h : a = b
  · subst h; simp [evE, evT, evL, evA, evO, evAr, evS, evD, putS, peek, mutS, setM, opB, opC, opF, opIx, opSl, walk, unpS, bindT, refs, argS, putBack, permA, outsOf, atI, ixN, tru, setJ]
  · rw [decide_eq_false h]; exact beq_eq_false_iff_ne.2 h
/-! ### read back -/
theorem tlim {x : PySem.Str} (h : x.length ≤ 601) : x.length ≤ lim := by unfold lim; omega
theorem nat_tx (i : Int) : (i.natAbs : Int).natAbs = i.natAbs := Int.natAbs_natCast _
theorem part_ftx (q : Rat) : Txt.partition (ftx q) "/" = (tx q.num, if q.den = 1 then PySem.Str.empty else "/", if q.den = 1 then PySem.Str.empty else tx (q.den : Int)) := by
  have f : 47 ∉ tl (tx q.num) := by rw [tl_tx]; exact numI_free (by decide) (by decide)
  unfold ftx
  by_cases e : q.den = 1
  · rw [if_pos e, if_pos e, if_pos e, partition_none tl_slash f]
  · rw [if_neg e, if_neg e, if_neg e, partition_app tl_slash f]
/-! ### a comprehension that reads each item -/
theorem compL_map {el : Mn.Env → Option (D × Mn.Env)} {cd : Mn.Env → Option (Bool × Mn.Env)} {tg : Tg} {own : List Nat} {env : Mn.Env} {g : D → D} : ∀ {its : List D}, (∀ x ∈ its, ∃ e1, bindT tg x (wipeE env own) = some e1 ∧ cd e1 = some (true, e1) ∧ el e1 = some (g x, e1) ∧ backE env e1 own = env) → compL el cd tg own its env = some (its.map g, env)
  | [], _ => rfl
  | x :: its, h => by
    obtain ⟨e1, h1, h2, h3, h4⟩ := h x List.mem_cons_self
    have ih := compL_map (its := its) fun y m => h y (List.mem_cons_of_mem _ m)
    unfold compL
    simp only [h1, h2, h3, h4, ih, Option.bind_some, Option.bind_eq_bind, if_true, List.map_cons]
theorem strs_of (ys : List PySem.Str) : strsD (ys.map D.str) = some ys := by
  induction ys with
  | nil => rfl
  | cons y ys ih => show (strsD (ys.map D.str)).map (y :: ·) = _; rw [ih]; rfl
/-! ### a flight's text -/
abbrev Ln := Bool × Rat
def wd (b : Bool) : PySem.Str := if b then "fly" else "turn"
def lnD (l : Ln) : D := .tup [.str (wd l.1), fr l.2]
def ltx (l : Ln) : PySem.Str := wd l.1 ++ " " ++ ftx l.2
def etx (u v : Rat) : PySem.Str := ftx u ++ " " ++ ftx v
def ftop (u v p : Rat) : PySem.Str := "flight " ++ etx u v ++ " " ++ ftx p
def fltx (u v p : Rat) (L : List Ln) : PySem.Str := Txt.join "\n" (ftop u v p :: L.map ltx)
def flD (u v p : Rat) (L : List Ln) : D := .tup [ev u v, fr p, .lst (L.map lnD)]
theorem l_blank : (" " : PySem.Str).length = 1 := by rw [len_tl, tl_blank]; rfl
theorem l_line : ("\n" : PySem.Str).length = 1 := by rw [len_tl, tl_line]; rfl
theorem l_fl : ("flight " : PySem.Str).length = 7 := by decide +kernel
theorem wd_len (b : Bool) : (wd b).length ≤ 4 := by cases b <;> decide +kernel
theorem etx_len {k : Nat} {u v : Rat} (h : Be k u v) (hk : k ≤ 1900) : (etx u v).length ≤ 2407 := by
  have h1 := ftx_len h.u hk
  have h2 := ftx_len h.v hk
  unfold etx
  rw [len_app, len_app, l_blank]; omega
theorem ltx_len {k : Nat} {l : Ln} (h : Bq k l.2) (hk : k ≤ 1900) : (ltx l).length ≤ 1208 := by
  have h1 := ftx_len h hk
  have h2 := wd_len l.1
  unfold ltx
  rw [len_app, len_app, l_blank]; omega
theorem ftop_len {k : Nat} {u v p : Rat} (h : Be k u v) (hp : Bq k p) (hk : k ≤ 1900) : (ftop u v p).length ≤ 3618 := by
  have h1 := etx_len h hk
  have h2 := ftx_len hp hk
  unfold ftop
  rw [len_app, len_app, len_app, l_blank, l_fl]; omega
theorem sum_le {ys : List PySem.Str} {m : Nat} (h : ∀ y ∈ ys, y.length ≤ m) : (ys.map (·.length)).sum ≤ ys.length * m := by
  induction ys with
  | nil => simp [evE, evT, evL, evA, evO, evAr, evS, evD, putS, peek, mutS, setM, opB, opC, opF, opIx, opSl, walk, unpS, bindT, refs, argS, putBack, permA, outsOf, atI, ixN, tru, setJ]
  | cons y ys ih =>
    have h1 := h y List.mem_cons_self
    have h2 := ih fun z hz => h z (List.mem_cons_of_mem _ hz)
    rw [List.map_cons, List.sum_cons, List.length_cons, Nat.add_mul]
    omega
/-! ### signs that do not stand in it -/
theorem free_ftx {q : Rat} {s : Nat} (h : s ≠ 45) (h1 : s ≠ 47) (h2 : s < 48 ∨ 57 < s) : s ∉ tl (ftx q) := by
  unfold ftx
  split
  · rw [tl_tx]; exact numI_free h h2
  · rw [tl_append, tl_append, tl_slash, tl_tx, tl_tx]
    intro m
    rcases List.mem_append.1 m with m | m
    · rcases List.mem_append.1 m with m | m
      · exact numI_free h h2 m
      · exact h1 (by simpa using m)
    · exact numI_free h h2 m
theorem free_wd {b : Bool} {s : Nat} (h : s < 97) : s ∉ tl (wd b) := by
  cases b
  · have : tl (wd false) = [116, 117, 114, 110] := by decide +kernel
    rw [this]; intro m; simp [evE, evT, evL, evA, evO, evAr, evS, evD, putS, peek, mutS, setM, opB, opC, opF, opIx, opSl, walk, unpS, bindT, refs, argS, putBack, permA, outsOf, atI, ixN, tru, setJ] at m; omega
  · have : tl (wd true) = [102, 108, 121] := by decide +kernel
    rw [this]; intro m; simp [evE, evT, evL, evA, evO, evAr, evS, evD, putS, peek, mutS, setM, opB, opC, opF, opIx, opSl, walk, unpS, bindT, refs, argS, putBack, permA, outsOf, atI, ixN, tru, setJ] at m; omega
theorem free_ltx {l : Ln} : 10 ∉ tl (ltx l) := by
  unfold ltx
  rw [tl_append, tl_append, tl_blank]
  intro m
  rcases List.mem_append.1 m with m | m
  · rcases List.mem_append.1 m with m | m
    · exact free_wd (by decide) m
    · simp [evE, evT, evL, evA, evO, evAr, evS, evD, putS, peek, mutS, setM, opB, opC, opF, opIx, opSl, walk, unpS, bindT, refs, argS, putBack, permA, outsOf, atI, ixN, tru, setJ] at m
  · exact free_ftx (by decide) (by decide) (by decide) m
theorem tl_flight : tl ("flight " : PySem.Str) = [102, 108, 105, 103, 104, 116, 32] := by decide +kernel
theorem tl_flight0 : tl ("flight" : PySem.Str) = [102, 108, 105, 103, 104, 116] := by decide +kernel
theorem free_ftop {u v p : Rat} : 10 ∉ tl (ftop u v p) := by
  unfold ftop etx
  rw [tl_append, tl_append, tl_append, tl_append, tl_append, tl_blank, tl_flight]
  intro m
  simp only [List.mem_append] at m
  rcases m with ((m | (m | m) | m) | m) | m
  · simp [evE, evT, evL, evA, evO, evAr, evS, evD, putS, peek, mutS, setM, opB, opC, opF, opIx, opSl, walk, unpS, bindT, refs, argS, putBack, permA, outsOf, atI, ixN, tru, setJ] at m
  · exact free_ftx (by decide) (by decide) (by decide) m
  · simp [evE, evT, evL, evA, evO, evAr, evS, evD, putS, peek, mutS, setM, opB, opC, opF, opIx, opSl, walk, unpS, bindT, refs, argS, putBack, permA, outsOf, atI, ixN, tru, setJ] at m
  · exact free_ftx (by decide) (by decide) (by decide) m
  · simp [evE, evT, evL, evA, evO, evAr, evS, evD, putS, peek, mutS, setM, opB, opC, opF, opIx, opSl, walk, unpS, bindT, refs, argS, putBack, permA, outsOf, atI, ixN, tru, setJ] at m
  · exact free_ftx (by decide) (by decide) (by decide) m
theorem split_lines {u v p : Rat} {L : List Ln} : Txt.split (fltx u v p L) "\n" = ftop u v p :: L.map ltx := by
  unfold fltx
  refine split_join (s := 10) (S := []) tl_line (by decide +kernel) (by simp [evE, evT, evL, evA, evO, evAr, evS, evD, putS, peek, mutS, setM, opB, opC, opF, opIx, opSl, walk, unpS, bindT, refs, argS, putBack, permA, outsOf, atI, ixN, tru, setJ]) ?_
  intro y hy
  rcases List.mem_cons.1 hy with rfl | hy
  · exact free_ftop
  · obtain ⟨l, _, rfl⟩ := List.mem_map.1 hy
    exact free_ltx
theorem ftop_join {u v p : Rat} : ftop u v p = Txt.join " " (["flight", ftx u, ftx v, ftx p] : List PySem.Str) := by
  apply tl_inj
  rw [join_eq, tl_join]
  unfold ftop etx
  rw [tl_append, tl_append, tl_append, tl_append, tl_append, tl_blank, tl_flight]
  show _ = joinL [32] [tl ("flight" : PySem.Str), tl (ftx u), tl (ftx v), tl (ftx p)]
  rw [tl_flight0]
  simp [evE, evT, evL, evA, evO, evAr, evS, evD, putS, peek, mutS, setM, opB, opC, opF, opIx, opSl, walk, unpS, bindT, refs, argS, putBack, permA, outsOf, atI, ixN, tru, setJ, joinL]
theorem split_top {u v p : Rat} : Txt.split (ftop u v p) " " = (["flight", ftx u, ftx v, ftx p] : List PySem.Str) := by
  rw [ftop_join]
  refine split_join (s := 32) (S := []) tl_blank (by decide +kernel) (by simp [evE, evT, evL, evA, evO, evAr, evS, evD, putS, peek, mutS, setM, opB, opC, opF, opIx, opSl, walk, unpS, bindT, refs, argS, putBack, permA, outsOf, atI, ixN, tru, setJ]) ?_
  intro y hy
  simp only [List.mem_cons, List.not_mem_nil, or_false] at hy
  rcases hy with rfl | rfl | rfl | rfl
  · rw [tl_flight0]; decide
  · exact free_ftx (by decide) (by decide) (by decide)
  · exact free_ftx (by decide) (by decide) (by decide)
  · exact free_ftx (by decide) (by decide) (by decide)
theorem part_line {l : Ln} : Txt.partition (ltx l) " " = (wd l.1, (" " : PySem.Str), ftx l.2) := by
  unfold ltx
  exact partition_app tl_blank (free_wd (by decide))
theorem joinL_len (S : List Nat) : ∀ L : List (List Nat), (joinL S L).length ≤ (L.map (·.length)).sum + L.length * S.length
  | [] => by simp [evE, evT, evL, evA, evO, evAr, evS, evD, putS, peek, mutS, setM, opB, opC, opF, opIx, opSl, walk, unpS, bindT, refs, argS, putBack, permA, outsOf, atI, ixN, tru, setJ, joinL]
  | [x] => by simp [evE, evT, evL, evA, evO, evAr, evS, evD, putS, peek, mutS, setM, opB, opC, opF, opIx, opSl, walk, unpS, bindT, refs, argS, putBack, permA, outsOf, atI, ixN, tru, setJ, joinL]
  | x :: y :: r => by
    have := joinL_len S (y :: r)
    show (x ++ (S ++ joinL S (y :: r))).length ≤ _
    rw [List.length_append, List.length_append, List.map_cons, List.sum_cons, List.length_cons, Nat.add_mul]
    omega
theorem fltx_len {k : Nat} {u v p : Rat} {L : List Ln} (h : Be k u v) (hp : Bq k p) (hL : ∀ l ∈ L, Bq k l.2) (hl : L.length ≤ 100) (hk : k ≤ 1900) : (fltx u v p L).length ≤ 370000 := by
  unfold fltx
  rw [join_eq, len_tl, tl_join, tl_line]
  have a := joinL_len [10] ((ftop u v p :: L.map ltx).map tl)
  have b := sum_le (ys := ftop u v p :: L.map ltx) (m := 3618) (by
    intro y hy
    rcases List.mem_cons.1 hy with rfl | hy
    · exact ftop_len h hp hk
    · obtain ⟨l, hl, rfl⟩ := List.mem_map.1 hy
      have := ltx_len (hL l hl) hk
      omega)
  have e : (((ftop u v p :: L.map ltx).map tl).map (·.length)) = (ftop u v p :: L.map ltx).map (·.length) := by
    rw [List.map_map]
    refine List.map_congr_left fun y _ => ?_
    exact (len_tl y).symm
  rw [e, List.length_map] at a
  rw [List.length_cons, List.length_map] at a b
  have c : (L.length + 1) * 3618 ≤ 101 * 3618 := Nat.mul_le_mul_right _ (by omega)
  have d : (L.length + 1) * ([10] : List Nat).length = L.length + 1 := by simp [evE, evT, evL, evA, evO, evAr, evS, evD, putS, peek, mutS, setM, opB, opC, opF, opIx, opSl, walk, unpS, bindT, refs, argS, putBack, permA, outsOf, atI, ixN, tru, setJ]
  rw [d] at a
  omega
theorem ks {x : PySem.Str} : kitB (tyOf (.str x)) "str" = some true := by show kitB "str" "str" = some true; decide +kernel
theorem atI_nat {α : Type} {xs : List α} {i : Nat} {x : α} (h : xs[i]? = some x) : atI xs (i : Int) = some x := by
  have hl := (List.getElem?_eq_some_iff.1 h).1
  unfold atI ixN
  rw [if_pos (by omega), if_pos (by omega)]
  simpa using h
theorem ixl0 {x : D} {r : List D} : opIx (.lst (x :: r)) (.int 0) = some x := by
  show atI (x :: r) ((0 : Nat) : Int) = some x
  exact atI_nat rfl
theorem ixt0 {x : D} {r : List D} : opIx (.tup (x :: r)) (.int 0) = some x := by
  show atI (x :: r) ((0 : Nat) : Int) = some x
  exact atI_nat rfl
theorem ixt1 {x y : D} {r : List D} : opIx (.tup (x :: y :: r)) (.int 1) = some y := by
  show atI (x :: y :: r) ((1 : Nat) : Int) = some y
  exact atI_nat rfl
theorem slc1 {x : D} {r : List D} : opSl (.lst (x :: r)) (some 1) none = some (.lst r) := by
  show some (D.lst (cutD (x :: r) (some 1) none)) = _
  congr 2
  unfold cutD
  have e1 : HT.sIx (x :: r).length 0 (some 1) = 1 := by
    unfold HT.sIx
    simp [evE, evT, evL, evA, evO, evAr, evS, evD, putS, peek, mutS, setM, opB, opC, opF, opIx, opSl, walk, unpS, bindT, refs, argS, putBack, permA, outsOf, atI, ixN, tru, setJ]
  have e2 : HT.sIx (x :: r).length (x :: r).length none = (x :: r).length := rfl
  rw [e1, e2]
  show (r).take ((x :: r).length - 1) = r
  rw [List.length_cons, Nat.add_sub_cancel]
  exact List.take_length
/-- a slot that may be stored in -/
def Fre (o : Option Sl) : Prop := o = none ∨ ∃ d, o = some (.val d)
/-! ### where pieces begin -/
structure Stp where
  t : Rat
  u : Rat
  v : Rat
  p : Rat
def stD (s : Stp) : D := .tup [fr s.t, ev s.u s.v, fr s.p]
/-- the stops of a flight: where each piece begins, and the end -/
def stp (t u v p : Rat) : List Ln → List Stp
  | [] => [⟨t, u, v, p⟩]
  | (false, w) :: L => stp t u v (p * w) L
  | (true, w) :: L => ⟨t, u, v, p⟩ :: stp (t + w) (u + p * w) (v + w / p) p L
/-- sizes that stay small enough -/
structure Szs (P T E Pm m : Nat) : Prop where
  p : P + 8 * m ≤ Pm
  pm : Pm ≤ 1800
  t : T + 9 * m ≤ 1900
  e : E + m * (Pm + 9) ≤ 1900
theorem Szs.turn {P T E Pm m : Nat} (h : Szs P T E Pm (m + 1)) : Szs (P + 8) T E Pm m := ⟨by have := h.p; omega, h.pm, by have := h.t; omega, by have := h.e; rw [Nat.add_mul] at this; omega⟩
theorem Szs.fly {P T E Pm m : Nat} (h : Szs P T E Pm (m + 1)) : Szs P (T + 9) (E + (Pm + 9)) Pm m := ⟨by have := h.p; omega, h.pm, by have := h.t; omega, by have := h.e; rw [Nat.add_mul] at this; omega⟩
theorem s_flown {fu n a b c : Nat} {u v p w : Rat} (h : Be a u v) (hp : Bq b p) (hw : Bq c w) (p0 : 0 < p) (ha : a ≤ 2000) (hb : b + c ≤ 2000) : evF T fu (n + 3) "flown" [.val (ev u v), .val (fr p), .val (fr w)] = some (ev (u + p * w) (v + w / p), []) := by
  have m1 := s_multiplied (fu := fu) (n := n) (hp.le (by omega : b ≤ 2000)) (hw.le (by omega : c ≤ 2000))
  have m2 := s_divided (fu := fu) (n := n) (hw.le (by omega : c ≤ 2000)) (hp.le (by omega : b ≤ 2000)) p0
  have b1 : Bq 2000 (p * w) := (hp.mul hw).le hb
  have b2 : Bq 2000 (w / p) := (hw.div hp p0).le (by omega)
  have a1 := s_added (fu := fu) (n := n) (h.u.le ha) b1
  have a2 := s_added (fu := fu) (n := n) (h.v.le ha) b2
  rw [ev1 (dd := d_flown) (by kernel_rfl)]
  unfold d_flown ev
  generalize fr (p * w) = x1 at m1 a1
  generalize fr (w / p) = x2 at m2 a2
  generalize fr (u + p * w) = y1 at a1 ⊢
  generalize fr (v + w / p) = y2 at a2 ⊢
  generalize fr p = pp at m1 m2 ⊢
  generalize fr w = ww at m1 m2 ⊢
  generalize fr u = uu at a1 ⊢
  generalize fr v = vv at a2 ⊢
  simp [evE, evT, evL, evA, evO, evAr, evS, evD, putS, peek, mutS, setM, opB, opC, opF, opSl, walk, unpS, bindT, refs, argS, putBack, permA, outsOf, atI, ixN, tru, setJ, ixt0, ixt1, m1, m2, a1, a2, show 2 ≤ lim by decide]
structure Sto (s : Stp) : Prop where
  t : Bq 1900 s.t
  e : Be 1900 s.u s.v
  p : Bq 1800 s.p
  p0 : 0 < s.p
theorem stp_sto {Pm : Nat} : ∀ {L : List Ln} {P T E : Nat} {t u v p : Rat}, Bq T t → Be E u v → Bq P p → 0 < p → (∀ l ∈ L, Bq 8 l.2 ∧ 0 < l.2) → Szs P T E Pm L.length → ∀ s ∈ stp t u v p L, Sto s
  | [], P, T, E, t, u, v, p, ht, he, hp, p0, _, hs, s, hm => by
    have h1 := hs.p; have h2 := hs.pm; have h3 := hs.t; have h4 := hs.e
    simp only [List.length_nil] at h1 h3 h4
    rw [show s = ⟨t, u, v, p⟩ from by simpa [stp] using hm]
    exact ⟨ht.le (by omega), he.le (by omega), hp.le (by omega), p0⟩
  | (false, w) :: L, P, T, E, t, u, v, p, ht, he, hp, p0, hL, hs, s, hm => by
    obtain ⟨hw, w0⟩ : Bq 8 w ∧ 0 < w := hL _ List.mem_cons_self
    exact stp_sto ht he (hp.mul hw) (Rat.mul_pos p0 w0) (fun z m => hL z (List.mem_cons_of_mem _ m)) hs.turn s hm
  | (true, w) :: L, P, T, E, t, u, v, p, ht, he, hp, p0, hL, hs, s, hm => by
    obtain ⟨hw, w0⟩ : Bq 8 w ∧ 0 < w := hL _ List.mem_cons_self
    have h1 := hs.p; have h2 := hs.pm; have h3 := hs.t; have h4 := hs.e
    rw [List.length_cons] at h1 h3 h4
    rw [Nat.add_mul] at h4
    rcases List.mem_cons.1 (show s ∈ (⟨t, u, v, p⟩ : Stp) :: stp (t + w) (u + p * w) (v + w / p) p L from hm) with rfl | hm
    · exact ⟨ht.le (by omega), he.le (by omega), hp.le (by omega), p0⟩
    · have be : Be (E + (Pm + 9)) (u + p * w) (v + w / p) := ⟨(he.u.add (hp.mul hw)).le (by omega), (he.v.add (hw.div hp p0)).le (by omega)⟩
      exact stp_sto ((ht.add hw).le (by omega : _ ≤ T + 9)) be hp p0 (fun z m => hL z (List.mem_cons_of_mem _ m)) hs.fly s hm
theorem stp_cons : ∀ (L : List Ln) (t u v p : Rat), ∃ q r, stp t u v p L = ⟨t, u, v, q⟩ :: r
  | [], t, u, v, p => ⟨p, [], rfl⟩
  | (false, w) :: L, t, u, v, p => stp_cons L t u v (p * w)
  | (true, w) :: L, t, u, v, p => ⟨p, _, rfl⟩
/-- the pieces: pace and time -/
def pcs (p : Rat) : List Ln → List (Rat × Rat)
  | [] => []
  | (false, w) :: L => pcs (p * w) L
  | (true, w) :: L => (p, w) :: pcs p L
theorem pcs_stp : ∀ (L : List Ln) (t u v p : Rat), ((stp t u v p L).zip (stp t u v p L).tail).map (fun z => (z.1.p, z.2.t - z.1.t)) = pcs p L
  | [], t, u, v, p => rfl
  | (false, w) :: L, t, u, v, p => pcs_stp L t u v (p * w)
  | (true, w) :: L, t, u, v, p => by
    have ih := pcs_stp L (t + w) (u + p * w) (v + w / p) p
    obtain ⟨q, r, e⟩ := stp_cons L (t + w) (u + p * w) (v + w / p) p
    show (((⟨t, u, v, p⟩ : Stp) :: stp (t + w) (u + p * w) (v + w / p) p L).zip (stp (t + w) (u + p * w) (v + w / p) p L)).map _ = (p, w) :: pcs p L
    rw [← ih, e]
    rw [List.zip_cons_cons, List.map_cons]
    congr 1
    show (p, t + w - t) = (p, w)
    congr 1
    grind
def pcD (z : Rat × Rat) : D := .tup [fr z.1, fr z.2]
theorem slt1 {x : D} {r : List D} : opSl (.tup (x :: r)) (some 1) none = some (.tup r) := by
  have := slc1 (x := x) (r := r)
  have h : some (D.lst (cutD (x :: r) (some 1) none)) = some (D.lst r) := this
  show some (D.tup (cutD (x :: r) (some 1) none)) = _
  cases h1 : cutD (x :: r) (some 1) none with
  | nil => rw [h1] at h; cases h; rfl
  | cons a b => rw [h1] at h; cases h; rfl
theorem ixt2 {x y z : D} {r : List D} : opIx (.tup (x :: y :: z :: r)) (.int 2) = some z := by
  show atI (x :: y :: z :: r) ((2 : Nat) : Int) = some z
  exact atI_nat rfl
theorem ofs_inj {a b : String} : (PySem.Str.ofString a = PySem.Str.ofString b) ↔ a = b := by
  constructor
  · intro h
    have e := congrArg (fun x : PySem.Str => tl x) h
    simp only [tl_ofString] at e
    have e2 : a.toList = b.toList := by
      refine (List.map_inj_right ?_).1 e
      intro x y hxy
      exact Char.toNat_inj.1 hxy
    exact String.toList_inj.1 e2
  · intro h; rw [h]
/-- the fields of a flight -/
def fks : List PySem.Str := ["text", "start", "pace", "steps", "stops", "pieces", "whole", "goal"]
def flX (u v p : Rat) (L : List Ln) (e : Stp) : List D := [.str (fltx u v p L), ev u v, fr p, .tup (L.map lnD), .tup ((stp 0 u v p L).map stD), .tup ((pcs p L).map pcD), fr e.t, ev e.u e.v]
def flO (u v p : Rat) (L : List Ln) (e : Stp) : D := .obj "Flight" fks (flX u v p L e)
/-- the end of a flight -/
def lastS (t u v p : Rat) : List Ln → Stp
  | [] => ⟨t, u, v, p⟩
  | (false, w) :: L => lastS t u v (p * w) L
  | (true, w) :: L => lastS (t + w) (u + p * w) (v + w / p) p L
theorem stp_last : ∀ (L : List Ln) (t u v p : Rat), ∃ S, stp t u v p L = S ++ [lastS t u v p L] ∧ S.length ≤ L.length
  | [], t, u, v, p => ⟨[], rfl, Nat.le_refl _⟩
  | (false, w) :: L, t, u, v, p => let ⟨S, h, l⟩ := stp_last L t u v (p * w); ⟨S, h, Nat.le_succ_of_le l⟩
  | (true, w) :: L, t, u, v, p => let ⟨S, h, l⟩ := stp_last L (t + w) (u + p * w) (v + w / p) p; ⟨⟨t, u, v, p⟩ :: S, by show _ :: stp _ _ _ _ _ = _; rw [h]; rfl, Nat.succ_le_succ l⟩
theorem ixlast {x : D} {r : List D} : opIx (.tup (r ++ [x])) (.int (-1)) = some x := by
  show atI (r ++ [x]) (-1) = some x
  unfold atI ixN
  have hl : (r ++ [x]).length = r.length + 1 := by simp [evE, evT, evL, evA, evO, evAr, evS, evD, putS, peek, mutS, setM, opB, opC, opF, opIx, opSl, walk, unpS, bindT, refs, argS, putBack, permA, outsOf, atI, ixN, tru, setJ]
  rw [if_neg (by decide), hl, if_pos (by omega)]
  have : ((-1 : Int) + ((r.length + 1 : Nat) : Int)).toNat = r.length := by omega
  rw [this]
  simp [evE, evT, evL, evA, evO, evAr, evS, evD, putS, peek, mutS, setM, opB, opC, opF, opIx, opSl, walk, unpS, bindT, refs, argS, putBack, permA, outsOf, atI, ixN, tru, setJ]
/-! ### where it is at a time -/
theorem s_less {fu n : Nat} {p q : Rat} (h : Bq 3000 p) (g : Bq 3000 q) : evF T fu (n + 1) "is_less" [.val (fr p), .val (fr q)] = some (.bl (decide (p < q)), []) := by
  rw [ev1 (dd := d_is_less) (by kernel_rfl)]
  unfold d_is_less fr
  have e : decide (p < q) = decide (p.num * (q.den : Int) < q.num * (p.den : Int)) := decide_eq_decide.2 (Rat.lt_iff p q)
  rw [e]
  simp [evE, evT, evL, evA, evO, evAr, evS, evD, putS, peek, mutS, setM, opB, opC, opF, opIx, opSl, walk, unpS, bindT, refs, argS, putBack, permA, outsOf, atI, ixN, tru, setJ, h.sn, h.sd, g.sn, g.sd]
/-- a comprehension that leaves some out -/
theorem compL_filter {el : Mn.Env → Option (D × Mn.Env)} {cd : Mn.Env → Option (Bool × Mn.Env)} {tg : Tg} {own : List Nat} {env : Mn.Env} {α : Type} {f g : α → D} {b : α → Bool} : ∀ {its : List α}, (∀ x ∈ its, ∃ e1, bindT tg (f x) (wipeE env own) = some e1 ∧ cd e1 = some (b x, e1) ∧ el e1 = some (g x, e1) ∧ backE env e1 own = env) → compL el cd tg own (its.map f) env = some ((its.filter b).map g, env)
  | [], _ => rfl
  | x :: its, h => by
    obtain ⟨e1, h1, h2, h3, h4⟩ := h x List.mem_cons_self
    have ih := compL_filter (its := its) fun y m => h y (List.mem_cons_of_mem _ m)
    rw [List.map_cons]
    unfold compL
    cases hb : b x with
    | true =>
      rw [hb] at h2
      rw [List.filter_cons_of_pos hb]
      simp only [h1, h2, h3, h4, ih, Option.bind_some, Option.bind_eq_bind, if_true, List.map_cons]
    | false =>
      rw [hb] at h2
      rw [List.filter_cons_of_neg (by simp [evE, evT, evL, evA, evO, evAr, evS, evD, putS, peek, mutS, setM, opB, opC, opF, opIx, opSl, walk, unpS, bindT, refs, argS, putBack, permA, outsOf, atI, ixN, tru, setJ, hb])]
      simp only [h1, h2, h4, ih, Option.bind_some, Option.bind_eq_bind, Bool.false_eq_true, if_false]
theorem ixlastL {x : D} {r : List D} : opIx (.lst (r ++ [x])) (.int (-1)) = some x := by
  show atI (r ++ [x]) (-1) = some x
  exact (show atI (r ++ [x]) (-1) = some x from ixlast)
theorem Sto.ev {s : Stp} (h : Sto s) : Be 1900 s.u s.v := h.e
/-! ### the methods -/
theorem s_istime {fu n : Nat} {q : Rat} (h : 0 ≤ q) : evF T fu (n + 3) "is_time" [.val (fr q)] = some (.bl true, []) := by
  have f := s_frac (fu := fu) (n := n) (q := q)
  have hn : 0 ≤ q.num := Rat.num_nonneg.2 h
  rw [ev1 (dd := d_is_time) (by kernel_rfl)]
  unfold d_is_time
  unfold fr at f ⊢
  simp [evE, evT, evL, evA, evO, evAr, evS, evD, putS, peek, mutS, setM, opB, opC, opF, opIx, opSl, walk, unpS, bindT, refs, argS, putBack, permA, outsOf, atI, ixN, tru, setJ, f, hn]
def timeU (S : List Stp) (w x : Rat) : Option Rat :=
  match (S.filter fun s => !decide (x < s.u)).getLast? with
  | none => none
  | some s => if w < s.t + (x - s.u) / s.p then none else some (s.t + (x - s.u) / s.p)
def frO : Option Rat → D | none => .non | some q => fr q
/-! ### the law's own legs -/
def legs (t u v p : Rat) : List Ln → List (Stp × Rat)
  | [] => []
  | (false, w) :: L => legs t u v (p * w) L
  | (true, w) :: L => (⟨t, u, v, p⟩, w) :: legs (t + w) (u + p * w) (v + w / p) p L
def legD (z : Stp × Rat) : D := .tup [fr z.1.t, ev z.1.u z.1.v, fr z.1.p, fr z.2]
theorem s_gone {fu n a b c : Nat} {u v p w : Rat} (h : Be a u v) (hp : Bq b p) (hw : Bq c w) (p0 : 0 < p) (ha : a ≤ 1900) (hb : b + c ≤ 1900) (hf : 8001 ≤ fu) : evF T fu (n + 4) "_law_event_gone" [.val (ev u v), .val (fr p), .val (fr w)] = some (ev (u + p * w) (v + w / p), []) := by
  have m1 := s_ltimes (fu := fu) (n := n) (hp.le (by omega : b ≤ 1900)) (hw.le (by omega : c ≤ 1900)) hf
  have m2 := s_lover (fu := fu) (n := n) (hw.le (by omega : c ≤ 1900)) (hp.le (by omega : b ≤ 1900)) p0 hf
  have b1 : Bq 1900 (p * w) := (hp.mul hw).le hb
  have b2 : Bq 1900 (w / p) := (hw.div hp p0).le (by omega)
  have a1 := s_lplus (fu := fu) (n := n) (h.u.le ha) b1 hf
  have a2 := s_lplus (fu := fu) (n := n) (h.v.le ha) b2 hf
  rw [ev1 (dd := d__law_event_gone) (by kernel_rfl)]
  unfold d__law_event_gone ev
  generalize fr (p * w) = x1 at m1 a1
  generalize fr (w / p) = x2 at m2 a2
  generalize fr (u + p * w) = y1 at a1 ⊢
  generalize fr (v + w / p) = y2 at a2 ⊢
  generalize fr p = pp at m1 m2 ⊢
  generalize fr w = ww at m1 m2 ⊢
  generalize fr u = uu at a1 ⊢
  generalize fr v = vv at a2 ⊢
  simp [evE, evT, evL, evA, evO, evAr, evS, evD, putS, peek, mutS, setM, opB, opC, opF, opSl, walk, unpS, bindT, refs, argS, putBack, permA, outsOf, atI, ixN, tru, setJ, ixt0, ixt1, m1, m2, a1, a2, show 2 ≤ lim by decide]
theorem fr_zero : fr 0 = .tup [.int 0, .int 1] := rfl
/-! ### sums: the law's own going is the program's -/
theorem stp_ge : ∀ {L : List Ln} {t u v p : Rat}, (∀ l ∈ L, 0 < l.2) → ∀ s ∈ stp t u v p L, t ≤ s.t
  | [], t, u, v, p, _, s, hm => by rw [show s = ⟨t, u, v, p⟩ from by simpa [stp] using hm]; exact Rat.le_refl
  | (false, w) :: L, t, u, v, p, hL, s, hm => stp_ge (L := L) (fun l m => hL l (List.mem_cons_of_mem _ m)) s hm
  | (true, w) :: L, t, u, v, p, hL, s, hm => by
    have w0 : 0 < w := hL _ List.mem_cons_self
    rcases List.mem_cons.1 (show s ∈ (⟨t, u, v, p⟩ : Stp) :: stp (t + w) (u + p * w) (v + w / p) p L from hm) with rfl | hm
    · exact Rat.le_refl
    · have := stp_ge (L := L) (fun l m => hL l (List.mem_cons_of_mem _ m)) s hm
      grind
theorem legs_ge : ∀ {L : List Ln} {t u v p : Rat}, (∀ l ∈ L, 0 < l.2) → ∀ z ∈ legs t u v p L, t ≤ z.1.t
  | [], t, u, v, p, _, z, hm => by cases hm
  | (false, w) :: L, t, u, v, p, hL, s, hm => legs_ge (L := L) (fun l m => hL l (List.mem_cons_of_mem _ m)) s hm
  | (true, w) :: L, t, u, v, p, hL, s, hm => by
    have w0 : 0 < w := hL _ List.mem_cons_self
    rcases List.mem_cons.1 (show s ∈ ((⟨t, u, v, p⟩ : Stp), w) :: legs (t + w) (u + p * w) (v + w / p) p L from hm) with rfl | hm
    · exact Rat.le_refl
    · have := legs_ge (L := L) (fun l m => hL l (List.mem_cons_of_mem _ m)) s hm
      grind
/-- where the law is at a time -/
def lawAt (τ : Rat) : Rat × Rat → List (Stp × Rat) → Rat × Rat
  | a, [] => a
  | a, (s, w) :: r => lawAt τ (if τ < s.t then a else (s.u + s.p * (if w < τ - s.t then w else τ - s.t), s.v + (if w < τ - s.t then w else τ - s.t) / s.p)) r
theorem lawAt_later {τ : Rat} : ∀ {r : List (Stp × Rat)} {a : Rat × Rat}, (∀ z ∈ r, τ < z.1.t) → lawAt τ a r = a
  | [], a, _ => rfl
  | (s, w) :: r, a, h => by
    unfold lawAt
    rw [if_pos (h _ List.mem_cons_self)]
    exact lawAt_later fun z m => h z (List.mem_cons_of_mem _ m)
/-- the pace that the law tells from a time on -/
def lawPace (τ : Rat) (last : Rat) : List (Stp × Rat) → Rat
  | [] => last
  | (s, w) :: r => if τ < s.t + w then s.p else lawPace τ last r
theorem at_eq {τ : Rat} : ∀ {L : List Ln} {t u v p : Rat}, (∀ l ∈ L, 0 < l.2) → t ≤ τ → τ ≤ (lastS t u v p L).t →
    ∃ R s, (stp t u v p L).filter (fun s => !decide (τ < s.t)) = R ++ [s] ∧ s.t ≤ τ ∧ lawAt τ (u, v) (legs t u v p L) = (s.u + s.p * (τ - s.t), s.v + (τ - s.t) / s.p) ∧ lawPace τ (lastS t u v p L).p (legs t u v p L) = s.p
  | [], t, u, v, p, _, h0, h1 => by
    have h1 : τ ≤ t := h1
    have e : τ = t := by grind
    refine ⟨[], ⟨t, u, v, p⟩, ?_, h0, ?_, rfl⟩
    · show List.filter _ [(⟨t, u, v, p⟩ : Stp)] = _
      rw [List.filter_cons_of_pos (by have q : ¬ τ < t := (by grind); simp [evE, evT, evL, evA, evO, evAr, evS, evD, putS, peek, mutS, setM, opB, opC, opF, opIx, opSl, walk, unpS, bindT, refs, argS, putBack, permA, outsOf, atI, ixN, tru, setJ, q])]; rfl
    · show (u, v) = (u + p * (τ - t), v + (τ - t) / p)
      rw [e]
      have z : t - t = 0 := by grind
      rw [z]
      congr 1 <;> grind
  | (false, w) :: L, t, u, v, p, hL, h0, h1 => at_eq (L := L) (fun l m => hL l (List.mem_cons_of_mem _ m)) h0 h1
  | (true, w) :: L, t, u, v, p, hL, h0, h1 => by
    have w0 : 0 < w := hL _ List.mem_cons_self
    have hL' : ∀ l ∈ L, 0 < l.2 := fun l m => hL l (List.mem_cons_of_mem _ m)
    have nt : ¬ τ < t := by grind
    by_cases c : τ < t + w
    · refine ⟨[], ⟨t, u, v, p⟩, ?_, h0, ?_, ?_⟩
      · show List.filter _ ((⟨t, u, v, p⟩ : Stp) :: stp (t + w) (u + p * w) (v + w / p) p L) = _
        rw [List.filter_cons_of_pos (by have q : ¬ τ < t := (by grind); simp [evE, evT, evL, evA, evO, evAr, evS, evD, putS, peek, mutS, setM, opB, opC, opF, opIx, opSl, walk, unpS, bindT, refs, argS, putBack, permA, outsOf, atI, ixN, tru, setJ, q])]
        have : (stp (t + w) (u + p * w) (v + w / p) p L).filter (fun s => !decide (τ < s.t)) = [] := by
          rw [List.filter_eq_nil_iff]
          intro s hs
          have := stp_ge hL' s hs
          have q : τ < s.t := by grind
          simp [evE, evT, evL, evA, evO, evAr, evS, evD, putS, peek, mutS, setM, opB, opC, opF, opIx, opSl, walk, unpS, bindT, refs, argS, putBack, permA, outsOf, atI, ixN, tru, setJ, q]
        rw [this]; rfl
      · show lawAt τ (u, v) (((⟨t, u, v, p⟩ : Stp), w) :: legs (t + w) (u + p * w) (v + w / p) p L) = _
        unfold lawAt
        rw [if_neg nt, if_neg (show ¬ w < τ - t by grind), lawAt_later]
        intro z hz
        have := legs_ge hL' z hz
        grind
      · show lawPace τ _ (((⟨t, u, v, p⟩ : Stp), w) :: legs (t + w) (u + p * w) (v + w / p) p L) = p
        unfold lawPace
        rw [if_pos c]
    · obtain ⟨R, s, q1, q2, q3, q4⟩ := at_eq (τ := τ) (L := L) (t := t + w) (u := u + p * w) (v := v + w / p) (p := p) hL' (by grind) h1
      refine ⟨⟨t, u, v, p⟩ :: R, s, ?_, q2, ?_, ?_⟩
      · show List.filter _ ((⟨t, u, v, p⟩ : Stp) :: stp (t + w) (u + p * w) (v + w / p) p L) = _
        rw [List.filter_cons_of_pos (by have q : ¬ τ < t := (by grind); simp [evE, evT, evL, evA, evO, evAr, evS, evD, putS, peek, mutS, setM, opB, opC, opF, opIx, opSl, walk, unpS, bindT, refs, argS, putBack, permA, outsOf, atI, ixN, tru, setJ, q]), q1]; rfl
      · rw [← q3]
        show lawAt τ (u, v) (((⟨t, u, v, p⟩ : Stp), w) :: legs (t + w) (u + p * w) (v + w / p) p L) = _
        have mn : (if w < τ - t then w else τ - t) = w := by
          by_cases d : w < τ - t
          · rw [if_pos d]
          · rw [if_neg d]; grind
        rw [show lawAt τ (u, v) (((⟨t, u, v, p⟩ : Stp), w) :: legs (t + w) (u + p * w) (v + w / p) p L) = lawAt τ (if τ < t then (u, v) else (u + p * (if w < τ - t then w else τ - t), v + (if w < τ - t then w else τ - t) / p)) (legs (t + w) (u + p * w) (v + w / p) p L) from rfl, if_neg nt, mn]
      · rw [← q4]
        show (if τ < t + w then p else lawPace τ (lastS (t + w) (u + p * w) (v + w / p) p L).p (legs (t + w) (u + p * w) (v + w / p) p L)) = _
        rw [if_neg c]
theorem s_lminus {fu n : Nat} {p q : Rat} (h : Bq 1900 p) (g : Bq 1900 q) (hf : 8001 ≤ fu) : evF T fu (n + 3) "_law_frac_less" [.val (fr p), .val (fr q)] = some (fr (p - q), []) := by
  rw [ev1 (dd := d__law_frac_less) (by kernel_rfl), Rat.sub_def]
  unfold d__law_frac_less
  have hd := s_lfrac (fu := fu) (n := n) (a := p.num * q.den - q.num * p.den) (b := p.den * q.den) (Nat.mul_ne_zero p.den_nz q.den_nz) (Nat.lt_of_lt_of_le (Nat.mul_lt_mul'' h.d g.d) (by rw [← Nat.pow_add]; exact Nat.pow_le_pow_right (by decide) (by decide))) hf
  rw [Int.natCast_mul] at hd
  generalize fr (Rat.normalize _ _ _) = r at hd ⊢
  unfold fr
  simp [evE, evT, evL, evA, evO, evAr, evS, evD, putS, peek, mutS, setM, opB, opC, opF, opIx, opSl, walk, unpS, bindT, refs, argS, putBack, permA, outsOf, atI, ixN, tru, setJ, h.sn, h.sd, g.sn, g.sd, hd]
theorem s_lisless {fu n : Nat} {p q : Rat} (h : Bq 3000 p) (g : Bq 3000 q) : evF T fu (n + 1) "_law_frac_is_less" [.val (fr p), .val (fr q)] = some (.bl (decide (p < q)), []) := by
  rw [ev1 (dd := d__law_frac_is_less) (by kernel_rfl)]
  unfold d__law_frac_is_less fr
  have e : decide (p < q) = decide (p.num * (q.den : Int) < q.num * (p.den : Int)) := decide_eq_decide.2 (Rat.lt_iff p q)
  rw [e]
  simp [evE, evT, evL, evA, evO, evAr, evS, evD, putS, peek, mutS, setM, opB, opC, opF, opIx, opSl, walk, unpS, bindT, refs, argS, putBack, permA, outsOf, atI, ixN, tru, setJ, h.sn, h.sd, g.sn, g.sd]
/-- sizes of a leg at a time -/
structure Lto (τ : Rat) (z : Stp × Rat) : Prop where
  s : Sto z.1
  w : Bq 8 z.2
  p : Bq 100 z.1.p
  m : Bq 1700 (τ - z.1.t)
/-! ### sums and products of a list -/
theorem s_lsum {fu n : Nat} {qs : List Rat} (hq : ∀ q ∈ qs, Bq 8 q) (hl : qs.length ≤ 100) (hf : 8001 ≤ fu) : evF T fu (n + 4) "_law_frac_sum" [.val (.lst (qs.map fr))] = some (fr (qs.foldl (· + ·) 0), []) := by
  rw [ev1 (dd := d__law_frac_sum) (by kernel_rfl)]
  unfold d__law_frac_sum
  obtain ⟨B, hB⟩ : ∃ B, B = Sm.seq (.asg 1 (.call "_law_frac_plus" [0, 1] (.cons (.tval (.var 1)) (.cons (.tval (.var 2)) .nil)))) .nil := ⟨_, rfl⟩
  rw [← hB]
  have loop : ∀ (M : List Rat) (k : Nat) (a : Rat) (x0 : D) (e2 : Option Sl), Bq k a → k + 9 * M.length ≤ 1900 → (∀ q ∈ M, Bq 8 q) → Fre e2 →
      ∃ f2, forL (.one 2) (fun e => evS (evF T fu (n + 3)) fu B e) (M.map fr) [some (.val x0), some (.val (fr a)), e2] = some (.nx, [some (.val x0), some (.val (fr (M.foldl (· + ·) a))), f2]) := by
    intro M
    induction M with
    | nil => intro k a x0 e2 _ _ _ _; exact ⟨e2, by simp [evE, evT, evL, evA, evO, evAr, evS, evD, putS, peek, mutS, setM, opB, opC, opF, opIx, opSl, walk, unpS, bindT, refs, argS, putBack, permA, outsOf, atI, ixN, tru, setJ, forL]⟩
    | cons q M ih =>
      intro k a x0 e2 ha hk hM h2
      rw [List.length_cons] at hk
      have hq := hM q List.mem_cons_self
      have m1 := s_lplus (fu := fu) (n := n) (ha.le (by omega : k ≤ 1900)) (hq.le (by omega : 8 ≤ 1900)) hf
      obtain ⟨f2, ih⟩ := ih (k + 9) (a + q) x0 (some (.val (fr q))) ((ha.add hq).le (by omega)) (by omega) (fun z m => hM z (List.mem_cons_of_mem _ m)) (.inr ⟨_, rfl⟩)
      refine ⟨f2, ?_⟩
      have b1 : bindT (.one 2) (fr q) [some (.val x0), some (.val (fr a)), e2] = some [some (.val x0), some (.val (fr a)), some (.val (fr q))] := by
        rcases h2 with rfl | ⟨d, rfl⟩ <;> rfl
      have step : evS (evF T fu (n + 3)) fu B [some (.val x0), some (.val (fr a)), some (.val (fr q))] = some (.nx, [some (.val x0), some (.val (fr (a + q))), some (.val (fr q))]) := by
        rw [hB]
        generalize fr (a + q) = y at m1 ⊢
        generalize fr a = aa at m1 ⊢
        generalize fr q = qq at m1 ⊢
        simp [evE, evT, evL, evA, evO, evAr, evS, evD, putS, peek, mutS, setM, opB, opC, opF, opIx, opSl, walk, unpS, bindT, refs, argS, putBack, permA, outsOf, atI, ixN, tru, setJ, m1]
      have unf : ∀ e0 : Mn.Env, forL (.one 2) (fun e => evS (evF T fu (n + 3)) fu B e) (fr q :: M.map fr) e0 = (do
        let e1 ← bindT (.one 2) (fr q) e0
        let (f, e2) ← evS (evF T fu (n + 3)) fu B e1
        match f with
        | .nx => forL (.one 2) (fun e => evS (evF T fu (n + 3)) fu B e) (M.map fr) e2
        | .ct => forL (.one 2) (fun e => evS (evF T fu (n + 3)) fu B e) (M.map fr) e2
        | .bk => some (.nx, e2)
        | .rt d => some (.rt d, e2)) := fun _ => rfl
      rw [List.map_cons, unf]
      simp only [b1, step, ih, Option.bind_some, Option.bind_eq_bind]
      rfl
  obtain ⟨f2, lp⟩ := loop qs 1 0 (.lst (qs.map fr)) none ⟨by decide, by decide⟩ (by omega) hq (.inl rfl)
  clear loop hB
  have hLl : (qs.map fr).length ≤ lim := by rw [List.length_map]; unfold lim; omega
  rw [fr_zero] at lp
  generalize qs.map fr = QQ at lp hLl ⊢
  generalize fr (qs.foldl (· + ·) 0) = res at lp ⊢
  simp [evE, evT, evL, evA, evO, evAr, evS, evD, putS, peek, mutS, setM, opB, opC, opF, opIx, opSl, walk, unpS, bindT, refs, argS, putBack, permA, outsOf, atI, ixN, tru, setJ, lp, hLl, show 2 ≤ lim by decide]
theorem fr_one : fr 1 = .tup [.int 1, .int 1] := rfl
/-! ### the law's own whole, last pace, pieces -/
theorem sum_fly : ∀ (L : List Ln) (t u v p : Rat), ((L.filter fun l => l.1).map (·.2)).foldl (· + ·) t = (lastS t u v p L).t
  | [], t, u, v, p => rfl
  | (false, w) :: L, t, u, v, p => sum_fly L t u v (p * w)
  | (true, w) :: L, t, u, v, p => sum_fly L (t + w) (u + p * w) (v + w / p) p
theorem prod_turn : ∀ (L : List Ln) (t u v p a : Rat), p * ((L.filter fun l => !l.1).map (·.2)).foldl (· * ·) a = (lastS t u v (p * a) L).p
  | [], t, u, v, p, a => rfl
  | (false, w) :: L, t, u, v, p, a => by
    have := prod_turn L t u v p (a * w)
    show p * ((L.filter fun l => !l.1).map (·.2)).foldl (· * ·) (a * w) = (lastS t u v (p * a * w) L).p
    rw [this, Rat.mul_assoc]
  | (true, w) :: L, t, u, v, p, a => prod_turn L (t + w) (u + p * a * w) (v + w / (p * a)) p a
theorem legs_pcs : ∀ (L : List Ln) (t u v p : Rat), (legs t u v p L).map (fun z => (z.1.p, z.2)) = pcs p L
  | [], t, u, v, p => rfl
  | (false, w) :: L, t, u, v, p => legs_pcs L t u v (p * w)
  | (true, w) :: L, t, u, v, p => by
    show (p, w) :: (legs (t + w) (u + p * w) (v + w / p) p L).map (fun z => (z.1.p, z.2)) = (p, w) :: pcs p L
    rw [legs_pcs]
theorem comp_lines {fu n : Nat} {L : List Ln} {x0 : D} {b : Bool} : compL (fun e => evE (evF T fu n) (.var 2) e) (fun e => evT (evF T fu n) (.tval (.cmp .eq (.var 1) (.con (.str (wd b))))) e) (.many [1, 2]) [1, 2] (L.map lnD) [some (.val x0), none, none] = some (((L.filter fun l => l.1 == b).map (·.2)).map fr, [some (.val x0), none, none]) := by
  have key := compL_filter (el := fun e => evE (evF T fu n) (.var 2) e) (cd := fun e => evT (evF T fu n) (.tval (.cmp .eq (.var 1) (.con (.str (wd b))))) e) (tg := .many [1, 2]) (own := [1, 2]) (env := [some (.val x0), none, none]) (f := lnD) (g := fun l => fr l.2) (b := fun l => l.1 == b) (its := L) ?_
  · rw [key, List.map_map]; rfl
  · intro l hl
    obtain ⟨c, w⟩ := l
    refine ⟨[some (.val x0), some (.val (.str (wd c))), some (.val (fr w))], rfl, ?_, rfl, rfl⟩
    show evT (evF T fu n) (.tval (.cmp .eq (.var 1) (.con (.str (wd b))))) [some (.val x0), some (.val (.str (wd c))), some (.val (fr w))] = some ((c == b), [some (.val x0), some (.val (.str (wd c))), some (.val (fr w))])
    generalize fr w = ww
    cases c <;> cases b <;> simp [evE, evT, evL, evA, evO, evAr, evS, evD, putS, peek, mutS, setM, opB, opC, opF, opIx, opSl, walk, unpS, bindT, refs, argS, putBack, permA, outsOf, atI, ixN, tru, setJ, dsh_str, deq_str, wd, ofs_inj]
theorem ofil {L : List Ln} (hL : ∀ l ∈ L, Bq 8 l.2 ∧ 0 < l.2) (f : Ln → Bool) : ∀ q ∈ (L.filter f).map (·.2), Bq 8 q := by
  intro q hq
  obtain ⟨l, hl, rfl⟩ := List.mem_map.1 hq
  exact (hL l (List.mem_filter.1 hl).1).1
theorem divp {a b : Rat} (ha : 0 < a) (hb : 0 < b) : 0 < a / b := by
  rw [Rat.div_def]; exact Rat.mul_pos ha (Rat.inv_pos.2 hb)
theorem div_ge {a b : Rat} (ha : 0 ≤ a) (hb : 0 < b) : 0 ≤ a / b := by
  rcases Rat.le_iff_lt_or_eq.1 ha with h | h
  · exact Rat.le_of_lt (divp h hb)
  · rw [← h]; grind
theorem div_lt_iff' {a b c : Rat} (hb : 0 < b) : a / b < c ↔ a < b * c := by
  have e : a = b * (a / b) := by have : b ≠ 0 := by grind
                                 grind
  constructor
  · intro h
    have := Rat.mul_lt_mul_of_pos_left h hb
    grind
  · intro h
    by_cases q : a / b < c
    · exact q
    · have := Rat.mul_le_mul_of_nonneg_left (Rat.not_lt.1 q) (Rat.le_of_lt hb)
      grind
theorem stp_geU : ∀ {L : List Ln} {t u v p : Rat}, 0 < p → (∀ l ∈ L, 0 < l.2) → ∀ s ∈ stp t u v p L, u ≤ s.u
  | [], t, u, v, p, _, _, s, hm => by rw [show s = ⟨t, u, v, p⟩ from by simpa [stp] using hm]; exact Rat.le_refl
  | (false, w) :: L, t, u, v, p, p0, hL, s, hm => stp_geU (L := L) (Rat.mul_pos p0 (hL (false, w) List.mem_cons_self)) (fun l m => hL l (List.mem_cons_of_mem _ m)) s hm
  | (true, w) :: L, t, u, v, p, p0, hL, s, hm => by
    have w0 : 0 < w := hL _ List.mem_cons_self
    rcases List.mem_cons.1 (show s ∈ (⟨t, u, v, p⟩ : Stp) :: stp (t + w) (u + p * w) (v + w / p) p L from hm) with rfl | hm
    · exact Rat.le_refl
    · have := stp_geU (L := L) p0 (fun l m => hL l (List.mem_cons_of_mem _ m)) s hm
      have := Rat.mul_pos p0 w0
      grind
/-- where all stops behind the first are later than x -/
theorem stp_out {L : List Ln} {t u v p x : Rat} (p0 : 0 < p) (hL : ∀ l ∈ L, 0 < l.2) (h : x < u) : (stp t u v p L).filter (fun s => !decide (x < s.u)) = [] := by
  rw [List.filter_eq_nil_iff]
  intro s hs
  have := stp_geU p0 hL s hs
  have q : x < s.u := by grind
  simp [evE, evT, evL, evA, evO, evAr, evS, evD, putS, peek, mutS, setM, opB, opC, opF, opIx, opSl, walk, unpS, bindT, refs, argS, putBack, permA, outsOf, atI, ixN, tru, setJ, q]
theorem timeU_before {L : List Ln} {t u v p x w : Rat} (p0 : 0 < p) (hL : ∀ l ∈ L, 0 < l.2) (h : x < u) : timeU (stp t u v p L) w x = none := by
  unfold timeU
  rw [stp_out p0 hL h]; rfl
theorem last_ge : ∀ {L : List Ln} {t u v p : Rat}, (∀ l ∈ L, 0 < l.2) → t ≤ (lastS t u v p L).t
  | [], t, u, v, p, _ => Rat.le_refl
  | (false, w) :: L, t, u, v, p, hL => last_ge (L := L) fun l m => hL l (List.mem_cons_of_mem _ m)
  | (true, w) :: L, t, u, v, p, hL => by
    have w0 : 0 < w := hL _ List.mem_cons_self
    have := last_ge (L := L) (t := t + w) (u := u + p * w) (v := v + w / p) (p := p) fun l m => hL l (List.mem_cons_of_mem _ m)
    show t ≤ (lastS (t + w) (u + p * w) (v + w / p) p L).t
    grind
theorem timeU_begin : ∀ {L : List Ln} {t u v p w : Rat}, 0 < p → (∀ l ∈ L, 0 < l.2) → t ≤ w → timeU (stp t u v p L) w u = some t
  | [], t, u, v, p, w, p0, hL, h => by
    show timeU [⟨t, u, v, p⟩] w u = _
    unfold timeU
    rw [List.filter_cons_of_pos (by have q : ¬ u < u := by grind
                                    simp [evE, evT, evL, evA, evO, evAr, evS, evD, putS, peek, mutS, setM, opB, opC, opF, opIx, opSl, walk, unpS, bindT, refs, argS, putBack, permA, outsOf, atI, ixN, tru, setJ, q])]
    have e : t + (u - u) / p = t := by grind
    have q : ¬ w < t := by grind
    simp [evE, evT, evL, evA, evO, evAr, evS, evD, putS, peek, mutS, setM, opB, opC, opF, opIx, opSl, walk, unpS, bindT, refs, argS, putBack, permA, outsOf, atI, ixN, tru, setJ, e, q]
  | (false, z) :: L, t, u, v, p, w, p0, hL, h => timeU_begin (L := L) (Rat.mul_pos p0 (hL (false, z) List.mem_cons_self)) (fun l m => hL l (List.mem_cons_of_mem _ m)) h
  | (true, z) :: L, t, u, v, p, w, p0, hL, h => by
    have z0 : 0 < z := hL _ List.mem_cons_self
    show timeU ((⟨t, u, v, p⟩ : Stp) :: stp (t + z) (u + p * z) (v + z / p) p L) w u = _
    unfold timeU
    have pz := Rat.mul_pos p0 z0
    rw [List.filter_cons_of_pos (by have q : ¬ u < u := by grind
                                    simp [evE, evT, evL, evA, evO, evAr, evS, evD, putS, peek, mutS, setM, opB, opC, opF, opIx, opSl, walk, unpS, bindT, refs, argS, putBack, permA, outsOf, atI, ixN, tru, setJ, q]), stp_out p0 (fun l m => hL l (List.mem_cons_of_mem _ m)) (by grind)]
    have e : t + (u - u) / p = t := by grind
    have q : ¬ w < t := by grind
    simp [evE, evT, evL, evA, evO, evAr, evS, evD, putS, peek, mutS, setM, opB, opC, opF, opIx, opSl, walk, unpS, bindT, refs, argS, putBack, permA, outsOf, atI, ixN, tru, setJ, e, q]
/-- the law's own time at which u is x -/
def lawT (x : Rat) : List (Stp × Rat) → Option Rat
  | [] => none
  | (s, w) :: r => if 0 ≤ (x - s.u) / s.p ∧ ¬ w < (x - s.u) / s.p then some (s.t + (x - s.u) / s.p) else lawT x r
theorem filter_ne {L : List Ln} {t u v p x : Rat} (h : u ≤ x) : (stp t u v p L).filter (fun s => !decide (x < s.u)) ≠ [] := by
  obtain ⟨q, r, e⟩ := stp_cons L t u v p
  rw [e, List.filter_cons_of_pos (by have q : ¬ x < u := by grind
                                     simp [evE, evT, evL, evA, evO, evAr, evS, evD, putS, peek, mutS, setM, opB, opC, opF, opIx, opSl, walk, unpS, bindT, refs, argS, putBack, permA, outsOf, atI, ixN, tru, setJ, q])]
  exact List.cons_ne_nil _ _
theorem timeU_law : ∀ {L : List Ln} {t u v p x : Rat}, 0 < p → (∀ l ∈ L, 0 < l.2) → u < x → timeU (stp t u v p L) (lastS t u v p L).t x = lawT x (legs t u v p L)
  | [], t, u, v, p, x, p0, _, h => by
    show timeU [⟨t, u, v, p⟩] t x = none
    unfold timeU
    rw [List.filter_cons_of_pos (by have q : ¬ x < u := by grind
                                    simp [evE, evT, evL, evA, evO, evAr, evS, evD, putS, peek, mutS, setM, opB, opC, opF, opIx, opSl, walk, unpS, bindT, refs, argS, putBack, permA, outsOf, atI, ixN, tru, setJ, q])]
    have := divp (a := x - u) (by grind) p0
    have q : t < t + (x - u) / p := by grind
    simp [evE, evT, evL, evA, evO, evAr, evS, evD, putS, peek, mutS, setM, opB, opC, opF, opIx, opSl, walk, unpS, bindT, refs, argS, putBack, permA, outsOf, atI, ixN, tru, setJ, q]
  | (false, w) :: L, t, u, v, p, x, p0, hL, h => timeU_law (L := L) (Rat.mul_pos p0 (hL (false, w) List.mem_cons_self)) (fun l m => hL l (List.mem_cons_of_mem _ m)) h
  | (true, w) :: L, t, u, v, p, x, p0, hL, h => by
    have w0 : 0 < w := hL _ List.mem_cons_self
    have hL' : ∀ l ∈ L, 0 < l.2 := fun l m => hL l (List.mem_cons_of_mem _ m)
    have pw := Rat.mul_pos p0 w0
    have lg := last_ge (L := L) (t := t + w) (u := u + p * w) (v := v + w / p) (p := p) hL'
    have d0 := divp (a := x - u) (by grind) p0
    have first : (!decide (x < (⟨t, u, v, p⟩ : Stp).u)) = true := by
      have q : ¬ x < u := by grind
      simp [evE, evT, evL, evA, evO, evAr, evS, evD, putS, peek, mutS, setM, opB, opC, opF, opIx, opSl, walk, unpS, bindT, refs, argS, putBack, permA, outsOf, atI, ixN, tru, setJ, q]
    show timeU ((⟨t, u, v, p⟩ : Stp) :: stp (t + w) (u + p * w) (v + w / p) p L) (lastS (t + w) (u + p * w) (v + w / p) p L).t x = lawT x (((⟨t, u, v, p⟩ : Stp), w) :: legs (t + w) (u + p * w) (v + w / p) p L)
    have lw : lawT x (((⟨t, u, v, p⟩ : Stp), w) :: legs (t + w) (u + p * w) (v + w / p) p L) = if 0 ≤ (x - u) / p ∧ ¬ w < (x - u) / p then some (t + (x - u) / p) else lawT x (legs (t + w) (u + p * w) (v + w / p) p L) := rfl
    rw [lw]
    have dl : (x - u) / p < w ↔ x - u < p * w := div_lt_iff' p0
    by_cases c : x < u + p * w
    · have d1 : (x - u) / p < w := dl.2 (by grind)
      rw [if_pos ⟨by grind, by grind⟩]
      unfold timeU
      rw [List.filter_cons_of_pos (p := fun s : Stp => !decide (x < s.u)) first, stp_out p0 hL' c]
      have q : ¬ (lastS (t + w) (u + p * w) (v + w / p) p L).t < t + (x - u) / p := by grind
      simp [evE, evT, evL, evA, evO, evAr, evS, evD, putS, peek, mutS, setM, opB, opC, opF, opIx, opSl, walk, unpS, bindT, refs, argS, putBack, permA, outsOf, atI, ixN, tru, setJ, q]
    · have rest : timeU ((⟨t, u, v, p⟩ : Stp) :: stp (t + w) (u + p * w) (v + w / p) p L) (lastS (t + w) (u + p * w) (v + w / p) p L).t x = timeU (stp (t + w) (u + p * w) (v + w / p) p L) (lastS (t + w) (u + p * w) (v + w / p) p L).t x := by
        unfold timeU
        rw [List.filter_cons_of_pos (p := fun s : Stp => !decide (x < s.u)) first]
        have ne := filter_ne (L := L) (t := t + w) (u := u + p * w) (v := v + w / p) (p := p) (x := x) (by grind)
        cases hF : (stp (t + w) (u + p * w) (v + w / p) p L).filter (fun s => !decide (x < s.u)) with
        | nil => exact absurd hF ne
        | cons a r => rw [List.getLast?_cons_cons]
      rw [rest]
      by_cases c2 : x = u + p * w
      · have e : (x - u) / p = w := by have : p ≠ 0 := by grind
                                       grind
        rw [if_pos ⟨by grind, by grind⟩, e, c2]
        exact timeU_begin p0 hL' lg
      · have d2 : w < (x - u) / p := by
          by_cases q : w < (x - u) / p
          · exact q
          · have e : x - u = p * ((x - u) / p) := by have : p ≠ 0 := by grind
                                                     grind
            have := Rat.mul_le_mul_of_nonneg_left (Rat.not_lt.1 q) (Rat.le_of_lt p0)
            grind
        rw [if_neg (by grind)]
        exact timeU_law p0 hL' (by grind)
theorem lawT_before : ∀ {L : List Ln} {t u v p x : Rat}, 0 < p → (∀ l ∈ L, 0 < l.2) → x < u → lawT x (legs t u v p L) = none
  | [], t, u, v, p, x, _, _, _ => rfl
  | (false, w) :: L, t, u, v, p, x, p0, hL, h => lawT_before (L := L) (Rat.mul_pos p0 (hL (false, w) List.mem_cons_self)) (fun l m => hL l (List.mem_cons_of_mem _ m)) h
  | (true, w) :: L, t, u, v, p, x, p0, hL, h => by
    have w0 : 0 < w := hL _ List.mem_cons_self
    have pw := Rat.mul_pos p0 w0
    show (if 0 ≤ (x - u) / p ∧ ¬ w < (x - u) / p then some (t + (x - u) / p) else lawT x (legs (t + w) (u + p * w) (v + w / p) p L)) = none
    have := divp (a := u - x) (by grind) p0
    have e : (u - x) / p = - ((x - u) / p) := by grind
    rw [if_neg (by grind)]
    exact lawT_before p0 (fun l m => hL l (List.mem_cons_of_mem _ m)) (by grind)
/-- the law's own time at which u is x, begin and all -/
def lawTU (u x : Rat) (G : List (Stp × Rat)) : Option Rat := if u = x then some 0 else lawT x G
theorem timeU_is {L : List Ln} {u v p x : Rat} (p0 : 0 < p) (hL : ∀ l ∈ L, 0 < l.2) : timeU (stp 0 u v p L) (lastS 0 u v p L).t x = lawTU u x (legs 0 u v p L) := by
  unfold lawTU
  by_cases c : u = x
  · rw [if_pos c, ← c]
    exact timeU_begin p0 hL (last_ge hL)
  · rw [if_neg c]
    by_cases d : x < u
    · rw [timeU_before p0 hL d, lawT_before p0 hL d]
    · exact timeU_law p0 hL (by grind)
/-- where u is as told, and when -/
theorem at_u {τ : Rat} : ∀ {L : List Ln} {t u v p : Rat}, 0 < p → (∀ l ∈ L, 0 < l.2) → t ≤ τ → τ ≤ (lastS t u v p L).t →
    u ≤ (lawAt τ (u, v) (legs t u v p L)).1 ∧ v ≤ (lawAt τ (u, v) (legs t u v p L)).2 ∧ ∀ r ∈ stp t u v p L, ((lawAt τ (u, v) (legs t u v p L)).1 < r.u ↔ τ < r.t)
  | [], t, u, v, p, p0, _, h0, h1 => by
    have h1 : τ ≤ t := h1
    refine ⟨Rat.le_refl, Rat.le_refl, ?_⟩
    intro r hr
    rw [show r = ⟨t, u, v, p⟩ from by simpa [stp] using hr]
    show u < u ↔ τ < t
    grind
  | (false, w) :: L, t, u, v, p, p0, hL, h0, h1 => at_u (L := L) (Rat.mul_pos p0 (hL (false, w) List.mem_cons_self)) (fun l m => hL l (List.mem_cons_of_mem _ m)) h0 h1
  | (true, w) :: L, t, u, v, p, p0, hL, h0, h1 => by
    have w0 : 0 < w := hL _ List.mem_cons_self
    have hL' : ∀ l ∈ L, 0 < l.2 := fun l m => hL l (List.mem_cons_of_mem _ m)
    have pw := Rat.mul_pos p0 w0
    have wp := divp w0 p0
    have nt : ¬ τ < t := by grind
    show u ≤ (lawAt τ (u, v) (((⟨t, u, v, p⟩ : Stp), w) :: legs (t + w) (u + p * w) (v + w / p) p L)).1 ∧ v ≤ (lawAt τ (u, v) (((⟨t, u, v, p⟩ : Stp), w) :: legs (t + w) (u + p * w) (v + w / p) p L)).2 ∧ ∀ r ∈ (⟨t, u, v, p⟩ : Stp) :: stp (t + w) (u + p * w) (v + w / p) p L, _
    by_cases c : τ < t + w
    · have e : lawAt τ (u, v) (((⟨t, u, v, p⟩ : Stp), w) :: legs (t + w) (u + p * w) (v + w / p) p L) = (u + p * (τ - t), v + (τ - t) / p) := by
        unfold lawAt
        rw [if_neg nt, if_neg (show ¬ w < τ - t by grind), lawAt_later]
        intro z hz
        have := legs_ge hL' z hz
        grind
      have m0 : 0 ≤ p * (τ - t) := Rat.mul_nonneg (Rat.le_of_lt p0) (by grind)
      have m1 : 0 ≤ (τ - t) / p := div_ge (by grind) p0
      have m2 : p * (τ - t) < p * w := Rat.mul_lt_mul_of_pos_left (by grind) p0
      refine ⟨?_, ?_, ?_⟩
      · rw [e]; show u ≤ u + p * (τ - t); grind
      · rw [e]; show v ≤ v + (τ - t) / p; grind
      · intro r hr
        show (lawAt τ (u, v) (((⟨t, u, v, p⟩ : Stp), w) :: legs (t + w) (u + p * w) (v + w / p) p L)).1 < r.u ↔ τ < r.t
        rw [e]
        show u + p * (τ - t) < r.u ↔ τ < r.t
        rcases List.mem_cons.1 hr with rfl | hr
        · show u + p * (τ - t) < u ↔ τ < t
          grind
        · have a := stp_ge hL' r hr
          have b := stp_geU p0 hL' r hr
          grind
    · obtain ⟨q1, q2, q3⟩ := at_u (τ := τ) (L := L) (t := t + w) (u := u + p * w) (v := v + w / p) (p := p) p0 hL' (by grind) h1
      have e : lawAt τ (u, v) (((⟨t, u, v, p⟩ : Stp), w) :: legs (t + w) (u + p * w) (v + w / p) p L) = lawAt τ (u + p * w, v + w / p) (legs (t + w) (u + p * w) (v + w / p) p L) := by
        have mn : (if w < τ - t then w else τ - t) = w := by
          by_cases d : w < τ - t
          · rw [if_pos d]
          · rw [if_neg d]; grind
        rw [show lawAt τ (u, v) (((⟨t, u, v, p⟩ : Stp), w) :: legs (t + w) (u + p * w) (v + w / p) p L) = lawAt τ (if τ < t then (u, v) else (u + p * (if w < τ - t then w else τ - t), v + (if w < τ - t then w else τ - t) / p)) (legs (t + w) (u + p * w) (v + w / p) p L) from rfl, if_neg nt, mn]
      rw [e]
      refine ⟨by grind, by grind, ?_⟩
      intro r hr
      show (lawAt τ (u, v) (((⟨t, u, v, p⟩ : Stp), w) :: legs (t + w) (u + p * w) (v + w / p) p L)).1 < r.u ↔ τ < r.t
      rw [e]
      rcases List.mem_cons.1 hr with rfl | hr
      · show (lawAt τ (u + p * w, v + w / p) (legs (t + w) (u + p * w) (v + w / p) p L)).1 < u ↔ τ < t
        grind
      · exact q3 r hr
/-- u and v grow with time -/
theorem at_mono {σ τ : Rat} (hst : σ < τ) : ∀ {L : List Ln} {t u v p : Rat}, 0 < p → (∀ l ∈ L, 0 < l.2) → t ≤ σ → τ ≤ (lastS t u v p L).t →
    (lawAt σ (u, v) (legs t u v p L)).1 < (lawAt τ (u, v) (legs t u v p L)).1 ∧ (lawAt σ (u, v) (legs t u v p L)).2 < (lawAt τ (u, v) (legs t u v p L)).2
  | [], t, u, v, p, p0, _, h0, h1 => by
    have h1 : τ ≤ t := h1
    grind
  | (false, w) :: L, t, u, v, p, p0, hL, h0, h1 => at_mono hst (L := L) (Rat.mul_pos p0 (hL (false, w) List.mem_cons_self)) (fun l m => hL l (List.mem_cons_of_mem _ m)) h0 h1
  | (true, w) :: L, t, u, v, p, p0, hL, h0, h1 => by
    have w0 : 0 < w := hL _ List.mem_cons_self
    have hL' : ∀ l ∈ L, 0 < l.2 := fun l m => hL l (List.mem_cons_of_mem _ m)
    have here : ∀ ρ, t ≤ ρ → ρ < t + w → lawAt ρ (u, v) (((⟨t, u, v, p⟩ : Stp), w) :: legs (t + w) (u + p * w) (v + w / p) p L) = (u + p * (ρ - t), v + (ρ - t) / p) := by
      intro ρ r0 r1
      unfold lawAt
      rw [if_neg (by grind), if_neg (show ¬ w < ρ - t by grind), lawAt_later]
      intro z hz
      have := legs_ge hL' z hz
      grind
    have there : ∀ ρ, t ≤ ρ → ¬ ρ < t + w → lawAt ρ (u, v) (((⟨t, u, v, p⟩ : Stp), w) :: legs (t + w) (u + p * w) (v + w / p) p L) = lawAt ρ (u + p * w, v + w / p) (legs (t + w) (u + p * w) (v + w / p) p L) := by
      intro ρ r0 r1
      have mn : (if w < ρ - t then w else ρ - t) = w := by
        by_cases d : w < ρ - t
        · rw [if_pos d]
        · rw [if_neg d]; grind
      rw [show lawAt ρ (u, v) (((⟨t, u, v, p⟩ : Stp), w) :: legs (t + w) (u + p * w) (v + w / p) p L) = lawAt ρ (if ρ < t then (u, v) else (u + p * (if w < ρ - t then w else ρ - t), v + (if w < ρ - t then w else ρ - t) / p)) (legs (t + w) (u + p * w) (v + w / p) p L) from rfl, if_neg (by grind), mn]
    show (lawAt σ (u, v) (((⟨t, u, v, p⟩ : Stp), w) :: legs (t + w) (u + p * w) (v + w / p) p L)).1 < (lawAt τ (u, v) (((⟨t, u, v, p⟩ : Stp), w) :: legs (t + w) (u + p * w) (v + w / p) p L)).1 ∧ (lawAt σ (u, v) (((⟨t, u, v, p⟩ : Stp), w) :: legs (t + w) (u + p * w) (v + w / p) p L)).2 < (lawAt τ (u, v) (((⟨t, u, v, p⟩ : Stp), w) :: legs (t + w) (u + p * w) (v + w / p) p L)).2
    by_cases c : σ < t + w
    · rw [here σ h0 c]
      by_cases d : τ < t + w
      · rw [here τ (by grind) d]
        have m2 : p * (σ - t) < p * (τ - t) := Rat.mul_lt_mul_of_pos_left (by grind) p0
        have m3 := divp (a := τ - σ) (by grind) p0
        exact ⟨by grind, by grind⟩
      · rw [there τ (by grind) d]
        obtain ⟨q1, q2, _⟩ := at_u (τ := τ) (L := L) (t := t + w) (u := u + p * w) (v := v + w / p) (p := p) p0 hL' (by grind) h1
        have m2 : p * (σ - t) < p * w := Rat.mul_lt_mul_of_pos_left (by grind) p0
        have m3 := divp (a := w - (σ - t)) (by grind) p0
        exact ⟨by grind, by grind⟩
    · rw [there σ h0 c, there τ (by grind) (by grind)]
      exact at_mono hst (L := L) p0 hL' (by grind) h1
/-! ### times on a grid -/
def Gd (m N : Nat) (q : Rat) : Prop := ∃ k : Int, q = (k : Rat) / (m : Rat) ∧ k.natAbs ≤ N
theorem Gd.le {m N M : Nat} {q : Rat} (h : Gd m N q) (e : N ≤ M) : Gd m M q := let ⟨k, a, b⟩ := h; ⟨k, a, Nat.le_trans b e⟩
theorem Gd.add {m N M : Nat} {p q : Rat} (h : Gd m N p) (g : Gd m M q) : Gd m (N + M) (p + q) := by
  obtain ⟨k, a, b⟩ := h
  obtain ⟨l, c, d⟩ := g
  refine ⟨k + l, ?_, by omega⟩
  rw [a, c, Rat.intCast_add]; grind
theorem Gd.sub {m N M : Nat} {p q : Rat} (h : Gd m N p) (g : Gd m M q) : Gd m (N + M) (p - q) := by
  obtain ⟨k, a, b⟩ := h
  obtain ⟨l, c, d⟩ := g
  refine ⟨k - l, ?_, by omega⟩
  rw [a, c, Rat.intCast_sub]; grind
theorem Gd.fine {m N c : Nat} {q : Rat} (h : Gd m N q) (hc : c ≠ 0) : Gd (c * m) (c * N) q := by
  obtain ⟨k, a, b⟩ := h
  refine ⟨c * k, ?_, ?_⟩
  · rw [a, Rat.intCast_mul, Rat.natCast_mul, Rat.intCast_natCast]
    have : (c : Rat) ≠ 0 := by simpa using hc
    by_cases z : (m : Rat) = 0
    · rw [z]; grind
    · grind
  · rw [Int.natAbs_mul, Int.natAbs_natCast]; exact Nat.mul_le_mul_left c b
theorem Gd.bq {m N j : Nat} {q : Rat} (h : Gd m N q) (hm : m ≠ 0) (h1 : m < 2 ^ j) (h2 : N < 2 ^ j) : Bq j q := by
  obtain ⟨k, a, b⟩ := h
  have e : q = Rat.normalize k m hm := by
    rw [a, Rat.normalize_eq_mkRat, Rat.mkRat_eq_div]
  rw [e]
  exact norm_bd hm (by omega) h1
/-! ### when it is at an event -/
def whenW (r : Option Rat) (pl : Rat → Rat × Rat) (x y : Rat) : Option Rat :=
  match r with
  | none => none
  | some τ => if (pl τ).1 = x ∧ (pl τ).2 = y then some τ else none
/-! ### what is told is due -/
def Pl : Nat → D → Prop
  | 0, d => (∃ i, d = .int i) ∨ d = .non
  | k + 1, d => (∃ i, d = .int i) ∨ d = .non ∨ ∃ xs, d = .tup xs ∧ xs.length ≤ 1000 ∧ ∀ x ∈ xs, Pl k x
theorem Pl.int {k : Nat} {i : Int} : Pl k (.int i) := by cases k <;> exact .inl ⟨i, rfl⟩
theorem Pl.non {k : Nat} : Pl k .non := match k with
  | 0 => .inr rfl
  | _ + 1 => .inr (.inl rfl)
theorem Pl.tup {k : Nat} {xs : List D} (hl : xs.length ≤ 1000) (h : ∀ x ∈ xs, Pl k x) : Pl (k + 1) (.tup xs) := .inr (.inr ⟨xs, rfl, hl, h⟩)
theorem Pl.fr {k : Nat} {q : Rat} : Pl (k + 1) (fr q) := Pl.tup (by simp [evE, evT, evL, evA, evO, evAr, evS, evD, putS, peek, mutS, setM, opB, opC, opF, opIx, opSl, walk, unpS, bindT, refs, argS, putBack, permA, outsOf, atI, ixN, tru, setJ]) (by intro x hx; simp [evE, evT, evL, evA, evO, evAr, evS, evD, putS, peek, mutS, setM, opB, opC, opF, opIx, opSl, walk, unpS, bindT, refs, argS, putBack, permA, outsOf, atI, ixN, tru, setJ] at hx; rcases hx with rfl | rfl <;> exact Pl.int)
theorem Pl.ev {k : Nat} {u v : Rat} : Pl (k + 2) (ev u v) := Pl.tup (by simp [evE, evT, evL, evA, evO, evAr, evS, evD, putS, peek, mutS, setM, opB, opC, opF, opIx, opSl, walk, unpS, bindT, refs, argS, putBack, permA, outsOf, atI, ixN, tru, setJ]) (by intro x hx; simp [evE, evT, evL, evA, evO, evAr, evS, evD, putS, peek, mutS, setM, opB, opC, opF, opIx, opSl, walk, unpS, bindT, refs, argS, putBack, permA, outsOf, atI, ixN, tru, setJ] at hx; rcases hx with rfl | rfl <;> exact Pl.fr)
theorem kti {i : Int} : kitB (tyOf (.int i)) "tuple" = some false := by show kitB "int" "tuple" = some false; decide +kernel
theorem ktn : kitB (tyOf .non) "tuple" = some false := by decide +kernel
theorem kbn : kitB (tyOf .non) "bool" = some false := by decide +kernel
theorem kin : kitB (tyOf .non) "int" = some false := by decide +kernel
theorem all_true {α : Type} : ∀ xs : List α, opF .all [.lst (xs.map fun _ => D.bl true)] = some (.bl true) := by
  have h : ∀ xs : List α, boolsD (xs.map fun _ => D.bl true) = some (xs.map fun _ => true) := by
    intro xs
    induction xs with
    | nil => rfl
    | cons a r ih => show (boolsD (r.map fun _ => D.bl true)).map (true :: ·) = _; rw [ih]; rfl
  intro xs
  show (boolsD (xs.map fun _ => D.bl true)).map _ = _
  rw [h]
  show some (D.bl ((xs.map fun _ => true).all id)) = _
  congr 2
  rw [List.all_map, List.all_eq_true]
  intro _ _; rfl
theorem zip_self {α : Type} (xs : List α) : xs.zip xs = xs.map fun x => (x, x) := by
  induction xs with
  | nil => rfl
  | cons a r ih => rw [List.zip_cons_cons, ih]; rfl
theorem s_lis {fu : Nat} : ∀ (k n : Nat) (d : D), Pl k d → evF T fu (n + k + 1) "_law_is" [.val d, .val d] = some (.bl true, []) := by
  have int : ∀ (m : Nat) (i : Int), evF T fu (m + 1) "_law_is" [.val (.int i), .val (.int i)] = some (.bl true, []) := by
    intro m i
    have a := kti (i := i)
    have b := kib (i := i)
    have c := ki (i := i)
    have e : opC .eq (.int i) (.int i) = some true := by
      simp [evE, evT, evL, evA, evO, evAr, evS, evD, putS, peek, mutS, setM, opB, opC, opF, opIx, opSl, walk, unpS, bindT, refs, argS, putBack, permA, outsOf, atI, ixN, tru, setJ, dsh_int, deq_int]
    rw [ev1 (dd := d__law_is) (by kernel_rfl)]
    unfold d__law_is
    simp [evE, evT, evL, evA, evO, evAr, evS, evD, putS, peek, mutS, setM, opB, opF, opIx, opSl, walk, unpS, bindT, refs, argS, putBack, permA, outsOf, atI, ixN, tru, setJ, a, b, c, e]
  have non : ∀ m : Nat, evF T fu (m + 1) "_law_is" [.val .non, .val .non] = some (.bl true, []) := by
    intro m
    have a := ktn
    have b := kbn
    have c := kin
    rw [ev1 (dd := d__law_is) (by kernel_rfl)]
    unfold d__law_is
    simp [evE, evT, evL, evA, evO, evAr, evS, evD, putS, peek, mutS, setM, opB, opC, opF, opIx, opSl, walk, unpS, bindT, refs, argS, putBack, permA, outsOf, atI, ixN, tru, setJ, a, b, c]
  intro k
  induction k with
  | zero =>
    intro n d h
    rcases h with ⟨i, rfl⟩ | rfl
    · exact int n i
    · exact non n
  | succ k ih =>
    intro n d h
    rcases h with ⟨i, rfl⟩ | rfl | ⟨xs, rfl, hl, hx⟩
    · exact int _ i
    · exact non _
    have key := compL_filter (el := fun e => evE (evF T fu (n + k + 1)) (.call "_law_is" [0, 1] (.cons (.tval (.var 3)) (.cons (.tval (.var 4)) .nil))) e) (cd := fun e => evT (evF T fu (n + k + 1)) .tyes e) (tg := .many [3, 4]) (own := [3, 4]) (env := [some (.val (.tup xs)), some (.val (.tup xs)), some (.val (.bl true)), none, none]) (f := fun x => D.tup [x, x]) (g := fun _ => D.bl true) (b := fun _ => true) (its := xs) (by
      intro x hm
      refine ⟨[some (.val (.tup xs)), some (.val (.tup xs)), some (.val (.bl true)), some (.val x), some (.val x)], rfl, rfl, ?_, rfl⟩
      have t := ih n x (hx x hm)
      generalize D.tup xs = XX
      show evE (evF T fu (n + k + 1)) (.call "_law_is" [0, 1] (.cons (.tval (.var 3)) (.cons (.tval (.var 4)) .nil))) [some (.val XX), some (.val XX), some (.val (.bl true)), some (.val x), some (.val x)] = some (.bl true, [some (.val XX), some (.val XX), some (.val (.bl true)), some (.val x), some (.val x)])
      simp [evE, evT, evL, evA, evO, evAr, evS, evD, putS, peek, mutS, setM, opB, opC, opF, opIx, opSl, walk, unpS, bindT, refs, argS, putBack, permA, outsOf, atI, ixN, tru, setJ, t])
    rw [List.filter_eq_self.2 (fun _ _ => rfl)] at key
    have a := kt (xs := xs)
    have w1 : walk .zip [.tup xs, .tup xs] = some (xs.map fun x => D.tup [x, x]) := by
      show some ((xs.zip xs).map fun p => D.tup [p.1, p.2]) = _
      rw [zip_self, List.map_map]; rfl
    have al := all_true xs
    have ln : opC .eq (.int (xs.length : Int)) (.int (xs.length : Int)) = some true := by
      simp [evE, evT, evL, evA, evO, evAr, evS, evD, putS, peek, mutS, setM, opB, opC, opF, opIx, opSl, walk, unpS, bindT, refs, argS, putBack, permA, outsOf, atI, ixN, tru, setJ, dsh_int, deq_int]
    show evF T fu (n + k + 1 + 1) "_law_is" [.val (.tup xs), .val (.tup xs)] = _
    rw [ev1 (dd := d__law_is) (by kernel_rfl)]
    unfold d__law_is
    obtain ⟨CC, hCC⟩ : ∃ C, C = Ex.comp .zip (.cons (.var 0) (.cons (.var 1) .nil)) (.many [3, 4]) .tyes (.call "_law_is" [0, 1] (.cons (.tval (.var 3)) (.cons (.tval (.var 4)) .nil))) [3, 4] := ⟨_, rfl⟩
    have c3 : evE (evF T fu (n + k + 1)) CC [some (.val (.tup xs)), some (.val (.tup xs)), some (.val (.bl true)), none, none] = some (.lst (xs.map fun _ => D.bl true), [some (.val (.tup xs)), some (.val (.tup xs)), some (.val (.bl true)), none, none]) := by
      rw [hCC, evE]
      rw [show evL (evF T fu (n + k + 1)) (.cons (.var 0) (.cons (.var 1) .nil)) [some (.val (.tup xs)), some (.val (.tup xs)), some (.val (.bl true)), none, none] = some ([.tup xs, .tup xs], [some (.val (.tup xs)), some (.val (.tup xs)), some (.val (.bl true)), none, none]) by simp [evE, evT, evL, evA, evO, evAr, evS, evD, putS, peek, mutS, setM, opB, opC, opF, opIx, opSl, walk, unpS, bindT, refs, argS, putBack, permA, outsOf, atI, ixN, tru, setJ]]
      simp only [Option.bind_eq_bind, Option.bind_some, w1]
      rw [if_pos (by rw [Bool.and_eq_true]; exact ⟨by rw [List.length_map, decide_eq_true_eq]; unfold lim; omega, rfl⟩), key]
      rfl
    rw [← hCC]
    clear hCC key
    have lf : opF .len [.tup xs] = some (.int xs.length) := rfl
    have ti : opF (.isi "tuple") [.tup xs] = some (.bl true) := by simp [evE, evT, evL, evA, evO, evAr, evS, evD, putS, peek, mutS, setM, opB, opC, opF, opIx, opSl, walk, unpS, bindT, refs, argS, putBack, permA, outsOf, atI, ixN, tru, setJ, a]
    generalize (xs.map fun _ => D.bl true) = BB at c3 al
    simp [evE, evT, evL, evA, evO, evAr, evS, evD, putS, peek, mutS, setM, opB, opIx, opSl, walk, unpS, bindT, refs, argS, putBack, permA, outsOf, atI, ixN, tru, setJ, ti, c3, al, ln, lf]
/-! ### a drawn flight -/
theorem stp_all : ∀ {L : List Ln} {P E N : Nat} {t u v p : Rat}, Bq P p → 0 < p → Be E u v → Gd 6 N t → (∀ l ∈ L, Bq 4 l.2 ∧ 0 < l.2) → (∀ l ∈ L, l.1 = true → Gd 6 72 l.2) → P + 4 * L.length ≤ 44 → N + 72 * L.length ≤ 648 → E + L.length * 49 ≤ 461 →
    ∀ s ∈ stp t u v p L, Gd 6 648 s.t ∧ Be 461 s.u s.v ∧ Bq 44 s.p ∧ 0 < s.p
  | [], P, E, N, t, u, v, p, hp, p0, he, ht, _, _, h1, h2, h3, s, hm => by
    simp only [List.length_nil] at h1 h2 h3
    rw [show s = ⟨t, u, v, p⟩ from by simpa [stp] using hm]
    exact ⟨ht.le (by omega), he.le (by omega), hp.le (by omega), p0⟩
  | (false, w) :: L, P, E, N, t, u, v, p, hp, p0, he, ht, hL, hg, h1, h2, h3, s, hm => by
    rw [List.length_cons] at h1 h2 h3
    rw [Nat.add_mul] at h3
    obtain ⟨hw, w0⟩ : Bq 4 w ∧ 0 < w := hL _ List.mem_cons_self
    exact stp_all (L := L) (P := P + 4) (hp.mul hw) (Rat.mul_pos p0 w0) he ht (fun l m => hL l (List.mem_cons_of_mem _ m)) (fun l m => hg l (List.mem_cons_of_mem _ m)) (by omega) (by omega) (by omega) s hm
  | (true, w) :: L, P, E, N, t, u, v, p, hp, p0, he, ht, hL, hg, h1, h2, h3, s, hm => by
    rw [List.length_cons] at h1 h2 h3
    rw [Nat.add_mul] at h3
    obtain ⟨hw, w0⟩ : Bq 4 w ∧ 0 < w := hL _ List.mem_cons_self
    have gw : Gd 6 72 w := hg _ List.mem_cons_self rfl
    rcases List.mem_cons.1 (show s ∈ (⟨t, u, v, p⟩ : Stp) :: stp (t + w) (u + p * w) (v + w / p) p L from hm) with rfl | hm
    · exact ⟨ht.le (by omega), he.le (by omega), hp.le (by omega), p0⟩
    · exact stp_all (L := L) (P := P) (E := E + 49) (N := N + 72) hp p0 ⟨(he.u.add (hp.mul hw)).le (by omega), (he.v.add (hw.div hp p0)).le (by omega)⟩ (ht.add gw) (fun l m => hL l (List.mem_cons_of_mem _ m)) (fun l m => hg l (List.mem_cons_of_mem _ m)) (by omega) (by omega) (by omega) s hm
theorem legs_stp : ∀ {L : List Ln} {t u v p : Rat}, ∀ z ∈ legs t u v p L, z.1 ∈ stp t u v p L ∧ (true, z.2) ∈ L
  | [], t, u, v, p, z, hm => by cases hm
  | (false, w) :: L, t, u, v, p, z, hm => by
    have := legs_stp (L := L) z hm
    exact ⟨this.1, List.mem_cons_of_mem _ this.2⟩
  | (true, w) :: L, t, u, v, p, z, hm => by
    rcases List.mem_cons.1 (show z ∈ ((⟨t, u, v, p⟩ : Stp), w) :: legs (t + w) (u + p * w) (v + w / p) p L from hm) with rfl | hm
    · exact ⟨List.mem_cons_self, List.mem_cons_self⟩
    · have := legs_stp (L := L) z hm
      exact ⟨List.mem_cons_of_mem _ this.1, List.mem_cons_of_mem _ this.2⟩
theorem legs_len : ∀ {L : List Ln} {t u v p : Rat}, (legs t u v p L).length ≤ L.length
  | [], t, u, v, p => Nat.le_refl _
  | (false, w) :: L, t, u, v, p => Nat.le_succ_of_le (legs_len (L := L))
  | (true, w) :: L, t, u, v, p => Nat.succ_le_succ (legs_len (L := L))
structure Fly (u v p : Rat) (L : List Ln) : Prop where
  he : Be 20 u v
  hp : Bq 8 p
  p0 : 0 < p
  h4 : ∀ l ∈ L, Bq 4 l.2 ∧ 0 < l.2
  hg : ∀ l ∈ L, l.1 = true → Gd 6 72 l.2
  hn : L.length ≤ 9
theorem Fly.hl (F : Fly u v p L) : ∀ l ∈ L, Bq 8 l.2 ∧ 0 < l.2 := fun l m => ⟨(F.h4 l m).1.le (by decide), (F.h4 l m).2⟩
theorem Fly.szs (F : Fly u v p L) : Szs 8 1 20 80 L.length := ⟨by have := F.hn; omega, by decide, by have := F.hn; omega, by have := F.hn; have : L.length * 89 ≤ 9 * 89 := Nat.mul_le_mul_right _ F.hn; omega⟩
theorem z1 : Bq 1 (0 : Rat) := ⟨by decide, by decide⟩
theorem gz : Gd 6 0 (0 : Rat) := ⟨0, by decide +kernel, by decide⟩
theorem Fly.sto (F : Fly u v p L) : ∀ s ∈ stp 0 u v p L, Sto s := stp_sto z1 F.he F.hp F.p0 F.hl F.szs
theorem Fly.all (F : Fly u v p L) : ∀ s ∈ stp 0 u v p L, Gd 6 648 s.t ∧ Be 461 s.u s.v ∧ Bq 44 s.p ∧ 0 < s.p :=
  stp_all F.hp F.p0 F.he gz F.h4 F.hg (by have := F.hn; omega) (by have := F.hn; omega) (by have : L.length * 49 ≤ 9 * 49 := Nat.mul_le_mul_right _ F.hn; omega)
theorem Fly.l0 (F : Fly u v p L) : ∀ l ∈ L, 0 < l.2 := fun l m => (F.hl l m).2
theorem last_mem : lastS 0 u v p L ∈ stp 0 u v p L := by
  obtain ⟨S, h, _⟩ := stp_last L 0 u v p
  rw [h]; simp [evE, evT, evL, evA, evO, evAr, evS, evD, putS, peek, mutS, setM, opB, opC, opF, opIx, opSl, walk, unpS, bindT, refs, argS, putBack, permA, outsOf, atI, ixN, tru, setJ]
theorem Fly.slen (F : Fly u v p L) : (stp 0 u v p L).length ≤ 200 := by
  obtain ⟨S, h, e⟩ := stp_last L 0 u v p
  have := F.hn
  rw [h, List.length_append, List.length_singleton]; omega
theorem Fly.leg (F : Fly u v p L) : ∀ z ∈ legs 0 u v p L, Sto z.1 ∧ Gd 6 648 z.1.t ∧ Be 461 z.1.u z.1.v ∧ Bq 44 z.1.p ∧ Bq 8 z.2 ∧ Gd 6 72 z.2 := fun z hz => by
  obtain ⟨a, b⟩ := legs_stp z hz
  obtain ⟨c, d, e, f⟩ := F.all _ a
  exact ⟨F.sto _ a, c, d, e, (F.hl _ b).1, F.hg _ b rfl⟩
theorem Fly.glen (F : Fly u v p L) : (legs 0 u v p L).length ≤ 200 := by
  have := legs_len (L := L) (t := 0) (u := u) (v := v) (p := p)
  have := F.hn
  omega
/-- a time of a flight -/
structure Tm (u v p : Rat) (L : List Ln) (τ : Rat) : Prop where
  a : 0 ≤ τ
  b : τ ≤ (lastS 0 u v p L).t
  g : Gd 1260 140000 τ
theorem fine {q : Rat} (h : Gd 6 648 q) : Gd 1260 140000 q := (h.fine (c := 210) (by decide)).le (by decide)
theorem Tm.q {τ : Rat} (t : Tm u v p L τ) : Bq 18 τ := t.g.bq (by decide) (by decide) (by decide)
theorem Tm.d {τ : Rat} (t : Tm u v p L τ) {q : Rat} (h : Gd 6 648 q) : Bq 19 (τ - q) := (t.g.sub (fine h)).bq (by decide) (by decide) (by decide)
/-- where it is at a time -/
def plc (u v p : Rat) (L : List Ln) (τ : Rat) : Rat × Rat := lawAt τ (u, v) (legs 0 u v p L)
theorem at_all (F : Fly u v p L) {τ : Rat} (h0 : 0 ≤ τ) (h1 : τ ≤ (lastS 0 u v p L).t) :
    ∃ R s, s ∈ stp 0 u v p L ∧ (stp 0 u v p L).filter (fun s => !decide (τ < s.t)) = R ++ [s] ∧ s.t ≤ τ ∧ plc u v p L τ = (s.u + s.p * (τ - s.t), s.v + (τ - s.t) / s.p) ∧ lawPace τ (lastS 0 u v p L).p (legs 0 u v p L) = s.p ∧
      timeU (stp 0 u v p L) (lastS 0 u v p L).t (plc u v p L τ).1 = some τ := by
  obtain ⟨R, s, q1, q2, q3, q4⟩ := at_eq F.l0 h0 h1
  obtain ⟨a1, a2, a3⟩ := at_u F.p0 F.l0 h0 h1
  have hs : s ∈ stp 0 u v p L := (List.mem_filter.1 (by rw [q1]; simp : s ∈ (stp 0 u v p L).filter fun s => !decide (τ < s.t))).1
  refine ⟨R, s, hs, q1, q2, q3, q4, ?_⟩
  have fe : (stp 0 u v p L).filter (fun s => !decide ((plc u v p L τ).1 < s.u)) = R ++ [s] := by
    rw [← q1]
    refine List.filter_congr fun r hr => ?_
    have := a3 r hr
    congr 1
    exact decide_eq_decide.2 this
  unfold timeU
  rw [fe, List.getLast?_append]
  have sp := (F.all s hs).2.2.2
  have e : s.t + ((plc u v p L τ).1 - s.u) / s.p = τ := by
    rw [show plc u v p L τ = (s.u + s.p * (τ - s.t), s.v + (τ - s.t) / s.p) from q3]
    show s.t + (s.u + s.p * (τ - s.t) - s.u) / s.p = τ
    have : s.p ≠ 0 := by grind
    grind
  show (if (lastS 0 u v p L).t < s.t + ((plc u v p L τ).1 - s.u) / s.p then none else some (s.t + ((plc u v p L τ).1 - s.u) / s.p)) = some τ
  rw [e, if_neg (by grind)]
theorem Fly.plc (F : Fly u v p L) {τ : Rat} (t : Tm u v p L τ) : Be 525 (plc u v p L τ).1 (plc u v p L τ).2 := by
  obtain ⟨R, s, hs, _, _, e, _, _⟩ := at_all F t.a t.b
  obtain ⟨g, b, q, q0⟩ := F.all s hs
  rw [e]
  exact ⟨(b.u.add (q.mul (t.d g))).le (by decide), (b.v.add ((t.d g).div q q0)).le (by decide)⟩
structure Tq (u v p : Rat) (L : List Ln) (τ : Rat) : Prop where
  a : 0 ≤ τ
  b : τ ≤ (lastS 0 u v p L).t
  q : Bq 1100 τ
theorem Tm.tq {τ : Rat} (t : Tm u v p L τ) : Tq u v p L τ := ⟨t.a, t.b, t.q.le (by decide)⟩
theorem g10 {q : Rat} (h : Gd 6 648 q) : Bq 10 q := h.bq (by decide) (by decide) (by decide)
theorem Tq.d {τ : Rat} (t : Tq u v p L τ) {q : Rat} (h : Gd 6 648 q) : Bq 1111 (τ - q) := t.q.sub (g10 h)
abbrev fo (u v p : Rat) (L : List Ln) : D := flO u v p L (lastS 0 u v p L)
theorem fld_whole {e : Stp} : fldD fks (flX u v p L e) "whole" = some (fr e.t) := by
  unfold fks flX; simp [evE, evT, evL, evA, evO, evAr, evS, evD, putS, peek, mutS, setM, opB, opC, opF, opIx, opSl, walk, unpS, bindT, refs, argS, putBack, permA, outsOf, atI, ixN, tru, setJ, fldD, ofs_inj]
theorem fld_stops {e : Stp} : fldD fks (flX u v p L e) "stops" = some (.tup ((stp 0 u v p L).map stD)) := by
  unfold fks flX; simp [evE, evT, evL, evA, evO, evAr, evS, evD, putS, peek, mutS, setM, opB, opC, opF, opIx, opSl, walk, unpS, bindT, refs, argS, putBack, permA, outsOf, atI, ixN, tru, setJ, fldD, ofs_inj]
theorem fld_pieces {e : Stp} : fldD fks (flX u v p L e) "pieces" = some (.tup ((pcs p L).map pcD)) := by
  unfold fks flX; simp [evE, evT, evL, evA, evO, evAr, evS, evD, putS, peek, mutS, setM, opB, opC, opF, opIx, opSl, walk, unpS, bindT, refs, argS, putBack, permA, outsOf, atI, ixN, tru, setJ, fldD, ofs_inj]
theorem fld_start {e : Stp} : fldD fks (flX u v p L e) "start" = some (ev u v) := by
  unfold fks flX; simp [evE, evT, evL, evA, evO, evAr, evS, evD, putS, peek, mutS, setM, opB, opC, opF, opIx, opSl, walk, unpS, bindT, refs, argS, putBack, permA, outsOf, atI, ixN, tru, setJ, fldD, ofs_inj]
theorem fld_pace {e : Stp} : fldD fks (flX u v p L e) "pace" = some (fr p) := by
  unfold fks flX; simp [evE, evT, evL, evA, evO, evAr, evS, evD, putS, peek, mutS, setM, opB, opC, opF, opIx, opSl, walk, unpS, bindT, refs, argS, putBack, permA, outsOf, atI, ixN, tru, setJ, fldD, ofs_inj]
theorem fld_goal {e : Stp} : fldD fks (flX u v p L e) "goal" = some (ev e.u e.v) := by
  unfold fks flX; simp [evE, evT, evL, evA, evO, evAr, evS, evD, putS, peek, mutS, setM, opB, opC, opF, opIx, opSl, walk, unpS, bindT, refs, argS, putBack, permA, outsOf, atI, ixN, tru, setJ, fldD, ofs_inj]
theorem Fly.w (F : Fly u v p L) : Bq 10 (lastS 0 u v p L).t := g10 (F.all _ last_mem).1
theorem prod_bq : ∀ {M : List Rat} {k : Nat} {a : Rat}, Bq k a → (∀ q ∈ M, Bq 8 q) → Bq (k + 8 * M.length) (M.foldl (· * ·) a)
  | [], k, a, h, _ => h
  | q :: M, k, a, h, hM => by
    have := prod_bq (M := M) (h.mul (hM q List.mem_cons_self)) fun z m => hM z (List.mem_cons_of_mem _ m)
    exact this.le (by rw [List.length_cons]; omega)
/-- the time at which its u is x -/
abbrev tmU (u v p : Rat) (L : List Ln) (x : Rat) : Option Rat := timeU (stp 0 u v p L) (lastS 0 u v p L).t x
theorem Fly.xs (F : Fly u v p L) {x : Rat} (hx : Bq 540 x) : ∀ s ∈ stp 0 u v p L, Sto s ∧ Bq 1002 (x - s.u) ∧ Bq 1046 ((x - s.u) / s.p) ∧ Bq 1057 (s.t + (x - s.u) / s.p) := fun s hs => by
  obtain ⟨g, b, q, q0⟩ := F.all s hs
  have h1 : Bq 1002 (x - s.u) := hx.sub b.u
  have h2 : Bq 1046 ((x - s.u) / s.p) := h1.div q q0
  exact ⟨F.sto s hs, h1, h2, ((g10 g).add h2).le (by decide)⟩
theorem timeU_tq (F : Fly u v p L) {x τ : Rat} (hx : Bq 540 x) (h : tmU u v p L x = some τ) : Tq u v p L τ := by
  unfold tmU timeU at h
  cases hF : ((stp 0 u v p L).filter fun s => !decide (x < s.u)).getLast? with
  | none => rw [hF] at h; cases h
  | some s =>
    rw [hF] at h
    have hs := List.mem_of_getLast? hF
    obtain ⟨hs, hc⟩ := List.mem_filter.1 hs
    have hc : s.u ≤ x := by
      rw [Bool.not_eq_true', decide_eq_false_iff_not] at hc
      grind
    obtain ⟨g, b, q, q0⟩ := F.all s hs
    have h' : (if (lastS 0 u v p L).t < s.t + (x - s.u) / s.p then none else some (s.t + (x - s.u) / s.p)) = some τ := h
    by_cases c : (lastS 0 u v p L).t < s.t + (x - s.u) / s.p
    · rw [if_pos c] at h'; cases h'
    · rw [if_neg c] at h'
      cases h'
      have t0 := stp_ge F.l0 s hs
      have d0 := div_ge (a := x - s.u) (b := s.p) (by grind) q0
      exact ⟨by grind, by grind, ((g10 g).add (((hx.sub b.u).div q q0))).le (by decide)⟩
theorem no_at : ¬ (PySem.Str.ofString "at" ∈ fks) := by unfold fks; simp [evE, evT, evL, evA, evO, evAr, evS, evD, putS, peek, mutS, setM, opB, opC, opF, opIx, opSl, walk, unpS, bindT, refs, argS, putBack, permA, outsOf, atI, ixN, tru, setJ, ofs_inj]
theorem no_paceat : ¬ (PySem.Str.ofString "pace_at" ∈ fks) := by unfold fks; simp [evE, evT, evL, evA, evO, evAr, evS, evD, putS, peek, mutS, setM, opB, opC, opF, opIx, opSl, walk, unpS, bindT, refs, argS, putBack, permA, outsOf, atI, ixN, tru, setJ, ofs_inj]
/-! ### draws of flights -/
theorem Pot.le {c d : Nat} {own p1 p2 : Int} (h : Pot c own p1 p2) (e : c ≤ d) : Pot d own p1 p2 := ⟨h.o0, h.o1, h.a0, h.a1, h.b0, by have := h.b1; omega⟩
theorem s_ltime {fu n c : Nat} {own p1 p2 : Int} (h : Pot c own p1 p2) (hc : c < 1000000) :
    ∃ own' p2' q, Pot (c + 1) own' p1 p2' ∧ (Bq 4 q ∧ 0 < q ∧ Gd 6 72 q) ∧ evF T fu (n + 3) "_law_frac_time" [pot own p1 p2] = some (fr q, [potO own' p1 p2']) := by
  obtain ⟨o, r, b, hp, hb, e1⟩ := s_of (fu := fu) (n := n) (xs := [.tup [.int 1, .int 1], .tup [.int 2, .int 1], .tup [.int 3, .int 1], .tup [.int 1, .int 2], .tup [.int 3, .int 2], .tup [.int 5, .int 1], .tup [.int 1, .int 3], .tup [.int 7, .int 3], .tup [.int 12, .int 1]]) h hc (by simp [evE, evT, evL, evA, evO, evAr, evS, evD, putS, peek, mutS, setM, opB, opC, opF, opIx, opSl, walk, unpS, bindT, refs, argS, putBack, permA, outsOf, atI, ixN, tru, setJ]) (by simp [evE, evT, evL, evA, evO, evAr, evS, evD, putS, peek, mutS, setM, opB, opC, opF, opIx, opSl, walk, unpS, bindT, refs, argS, putBack, permA, outsOf, atI, ixN, tru, setJ])
  have key : ∃ q, b = fr q ∧ Bq 4 q ∧ 0 < q ∧ Gd 6 72 q := by
    simp [evE, evT, evL, evA, evO, evAr, evS, evD, putS, peek, mutS, setM, opB, opC, opF, opIx, opSl, walk, unpS, bindT, refs, argS, putBack, permA, outsOf, atI, ixN, tru, setJ] at hb
    rcases hb with rfl | rfl | rfl | rfl | rfl | rfl | rfl | rfl | rfl
    · exact ⟨1, rfl, ⟨by decide, by decide⟩, by decide, ⟨6, by decide +kernel, by decide⟩⟩
    · exact ⟨2, rfl, ⟨by decide, by decide⟩, by decide, ⟨12, by decide +kernel, by decide⟩⟩
    · exact ⟨3, rfl, ⟨by decide, by decide⟩, by decide, ⟨18, by decide +kernel, by decide⟩⟩
    · exact ⟨1 / 2, fr_mk (by decide +kernel) (by decide +kernel), ⟨by decide +kernel, by decide +kernel⟩, by decide +kernel, ⟨3, by decide +kernel, by decide⟩⟩
    · exact ⟨3 / 2, fr_mk (by decide +kernel) (by decide +kernel), ⟨by decide +kernel, by decide +kernel⟩, by decide +kernel, ⟨9, by decide +kernel, by decide⟩⟩
    · exact ⟨5, rfl, ⟨by decide, by decide⟩, by decide, ⟨30, by decide +kernel, by decide⟩⟩
    · exact ⟨1 / 3, fr_mk (by decide +kernel) (by decide +kernel), ⟨by decide +kernel, by decide +kernel⟩, by decide +kernel, ⟨2, by decide +kernel, by decide⟩⟩
    · exact ⟨7 / 3, fr_mk (by decide +kernel) (by decide +kernel), ⟨by decide +kernel, by decide +kernel⟩, by decide +kernel, ⟨14, by decide +kernel, by decide⟩⟩
    · exact ⟨12, rfl, ⟨by decide, by decide⟩, by decide, ⟨72, by decide +kernel, by decide⟩⟩
  obtain ⟨q, rfl, hq⟩ := key
  refine ⟨o, r, q, hp, hq, ?_⟩
  rw [ev1 (dd := d__law_frac_time) (by kernel_rfl)]
  generalize fr q = z at e1 ⊢
  unfold d__law_frac_time pot potO at *
  simp [evE, evT, evL, evA, evO, evAr, evS, evD, putS, peek, mutS, setM, opB, opC, opF, opIx, opSl, walk, unpS, bindT, refs, argS, putBack, permA, outsOf, ixN, tru, setJ, e1, lim]
theorem s_lturn {fu n c : Nat} {own p1 p2 : Int} (h : Pot c own p1 p2) (hc : c < 1000000) :
    ∃ own' p2' q, Pot (c + 1) own' p1 p2' ∧ (Bq 4 q ∧ 0 < q) ∧ evF T fu (n + 2) "_law_of" [pot own p1 p2, .val (.lst [.tup [.int 2, .int 1], .tup [.int 1, .int 2], .tup [.int 3, .int 2], .tup [.int 2, .int 3], .tup [.int 1, .int 1], .tup [.int 4, .int 1], .tup [.int 1, .int 4], .tup [.int 1, .int 3]])] = some (fr q, [potO own' p1 p2']) := by
  obtain ⟨o, r, b, hp, hb, e1⟩ := s_of (fu := fu) (n := n) (xs := [.tup [.int 2, .int 1], .tup [.int 1, .int 2], .tup [.int 3, .int 2], .tup [.int 2, .int 3], .tup [.int 1, .int 1], .tup [.int 4, .int 1], .tup [.int 1, .int 4], .tup [.int 1, .int 3]]) h hc (by simp [evE, evT, evL, evA, evO, evAr, evS, evD, putS, peek, mutS, setM, opB, opC, opF, opIx, opSl, walk, unpS, bindT, refs, argS, putBack, permA, outsOf, atI, ixN, tru, setJ]) (by simp [evE, evT, evL, evA, evO, evAr, evS, evD, putS, peek, mutS, setM, opB, opC, opF, opIx, opSl, walk, unpS, bindT, refs, argS, putBack, permA, outsOf, atI, ixN, tru, setJ])
  have key : ∃ q, b = fr q ∧ Bq 4 q ∧ 0 < q := by
    simp [evE, evT, evL, evA, evO, evAr, evS, evD, putS, peek, mutS, setM, opB, opC, opF, opIx, opSl, walk, unpS, bindT, refs, argS, putBack, permA, outsOf, atI, ixN, tru, setJ] at hb
    rcases hb with rfl | rfl | rfl | rfl | rfl | rfl | rfl | rfl
    · exact ⟨2, rfl, ⟨by decide, by decide⟩, by decide⟩
    · exact ⟨1 / 2, fr_mk (by decide +kernel) (by decide +kernel), ⟨by decide +kernel, by decide +kernel⟩, by decide +kernel⟩
    · exact ⟨3 / 2, fr_mk (by decide +kernel) (by decide +kernel), ⟨by decide +kernel, by decide +kernel⟩, by decide +kernel⟩
    · exact ⟨2 / 3, fr_mk (by decide +kernel) (by decide +kernel), ⟨by decide +kernel, by decide +kernel⟩, by decide +kernel⟩
    · exact ⟨1, rfl, ⟨by decide, by decide⟩, by decide⟩
    · exact ⟨4, rfl, ⟨by decide, by decide⟩, by decide⟩
    · exact ⟨1 / 4, fr_mk (by decide +kernel) (by decide +kernel), ⟨by decide +kernel, by decide +kernel⟩, by decide +kernel⟩
    · exact ⟨1 / 3, fr_mk (by decide +kernel) (by decide +kernel), ⟨by decide +kernel, by decide +kernel⟩, by decide +kernel⟩
  obtain ⟨q, rfl, hq⟩ := key
  exact ⟨o, r, q, hp, hq, e1⟩
def lineOk (l : Ln) : Prop := Bq 4 l.2 ∧ 0 < l.2 ∧ (l.1 = true → Gd 6 72 l.2)
/-! ### drawn times and events of a flight -/
theorem cut_last {xs : List D} {x : D} : cutD (xs ++ [x]) (some (-1)) none = [x] := by
  unfold cutD
  have h1 : HT.sIx (xs ++ [x]).length 0 (some (-1)) = xs.length := by
    show (if (-1 : Int) < 0 then ((-1 : Int) + ((xs ++ [x]).length : Int)).toNat else min (-1 : Int).toNat (xs ++ [x]).length) = _
    rw [if_pos (by decide), List.length_append, List.length_singleton]
    omega
  rw [h1, HT.sIx_none]
  simp [evE, evT, evL, evA, evO, evAr, evS, evD, putS, peek, mutS, setM, opB, opC, opF, opIx, opSl, walk, unpS, bindT, refs, argS, putBack, permA, outsOf, atI, ixN, tru, setJ]
theorem stp_le_last : ∀ {L : List Ln} {t u v p : Rat}, (∀ l ∈ L, 0 < l.2) → ∀ s ∈ stp t u v p L, s.t ≤ (lastS t u v p L).t
  | [], t, u, v, p, _, s, hm => by rw [show s = ⟨t, u, v, p⟩ from by simpa [stp] using hm]; exact Rat.le_refl
  | (false, w) :: L, t, u, v, p, hL, s, hm => stp_le_last (L := L) (fun l m => hL l (List.mem_cons_of_mem _ m)) s hm
  | (true, w) :: L, t, u, v, p, hL, s, hm => by
    have w0 : 0 < w := hL _ List.mem_cons_self
    rcases List.mem_cons.1 (show s ∈ (⟨t, u, v, p⟩ : Stp) :: stp (t + w) (u + p * w) (v + w / p) p L from hm) with rfl | hm
    · show t ≤ (lastS (t + w) (u + p * w) (v + w / p) p L).t
      have := last_ge (L := L) (t := t + w) (u := u + p * w) (v := v + w / p) (p := p) fun l m => hL l (List.mem_cons_of_mem _ m)
      grind
    · exact stp_le_last (L := L) (fun l m => hL l (List.mem_cons_of_mem _ m)) s hm
theorem Fly.w0 (F : Fly u v p L) : 0 ≤ (lastS 0 u v p L).t := last_ge F.l0
theorem Fly.tm0 (F : Fly u v p L) : Tm u v p L 0 := ⟨Rat.le_refl, F.w0, (fine (gz.le (by decide)))⟩
theorem Fly.tmw (F : Fly u v p L) : Tm u v p L (lastS 0 u v p L).t := ⟨F.w0, Rat.le_refl, fine (F.all _ last_mem).1⟩
theorem Fly.tms (F : Fly u v p L) {s : Stp} (h : s ∈ stp 0 u v p L) : Tm u v p L s.t := ⟨stp_ge F.l0 s h, stp_le_last F.l0 s h, fine (F.all s h).1⟩
/-- a part of the whole -/
def Part (c : Rat) : Prop := 0 ≤ c ∧ c ≤ 1 ∧ Bq 3 c ∧ ∃ a : Int, c = (a : Rat) / ((210 : Nat) : Rat) ∧ a.natAbs ≤ 210
theorem Fly.tmp (F : Fly u v p L) {c : Rat} (h : Part c) : Tm u v p L ((lastS 0 u v p L).t * c) := by
  obtain ⟨h0, h1, _, a, ea, ab⟩ := h
  have w0 := F.w0
  obtain ⟨k, ek, kb⟩ := (F.all _ last_mem).1
  refine ⟨Rat.mul_nonneg w0 h0, ?_, k * a, ?_, ?_⟩
  · have := Rat.mul_le_mul_of_nonneg_left h1 w0
    grind
  · rw [ek, ea, Rat.intCast_mul]
    have e6 : ((6 : Nat) : Rat) = 6 := rfl
    have e210 : ((210 : Nat) : Rat) = 210 := rfl
    have e1260 : ((1260 : Nat) : Rat) = 1260 := rfl
    rw [e6, e210, e1260]
    grind
  · rw [Int.natAbs_mul]
    exact Nat.le_trans (Nat.mul_le_mul kb ab) (by decide)
theorem s_lpart {fu n c : Nat} {own p1 p2 : Int} (h : Pot c own p1 p2) (hc : c < 1000000) :
    ∃ own' p2' q, Pot (c + 1) own' p1 p2' ∧ Part q ∧ evF T fu (n + 2) "_law_of" [pot own p1 p2, .val (.lst [.tup [.int 1, .int 2], .tup [.int 1, .int 3], .tup [.int 2, .int 5], .tup [.int 6, .int 7]])] = some (fr q, [potO own' p1 p2']) := by
  obtain ⟨o, r, b, hp, hb, e1⟩ := s_of (fu := fu) (n := n) (xs := [.tup [.int 1, .int 2], .tup [.int 1, .int 3], .tup [.int 2, .int 5], .tup [.int 6, .int 7]]) h hc (by simp [evE, evT, evL, evA, evO, evAr, evS, evD, putS, peek, mutS, setM, opB, opC, opF, opIx, opSl, walk, unpS, bindT, refs, argS, putBack, permA, outsOf, atI, ixN, tru, setJ]) (by simp [evE, evT, evL, evA, evO, evAr, evS, evD, putS, peek, mutS, setM, opB, opC, opF, opIx, opSl, walk, unpS, bindT, refs, argS, putBack, permA, outsOf, atI, ixN, tru, setJ])
  have key : ∃ q, b = fr q ∧ Part q := by
    simp [evE, evT, evL, evA, evO, evAr, evS, evD, putS, peek, mutS, setM, opB, opC, opF, opIx, opSl, walk, unpS, bindT, refs, argS, putBack, permA, outsOf, atI, ixN, tru, setJ] at hb
    rcases hb with rfl | rfl | rfl | rfl
    · exact ⟨1 / 2, fr_mk (by decide +kernel) (by decide +kernel), by decide +kernel, by decide +kernel, ⟨by decide +kernel, by decide +kernel⟩, 105, by decide +kernel, by decide⟩
    · exact ⟨1 / 3, fr_mk (by decide +kernel) (by decide +kernel), by decide +kernel, by decide +kernel, ⟨by decide +kernel, by decide +kernel⟩, 70, by decide +kernel, by decide⟩
    · exact ⟨2 / 5, fr_mk (by decide +kernel) (by decide +kernel), by decide +kernel, by decide +kernel, ⟨by decide +kernel, by decide +kernel⟩, 84, by decide +kernel, by decide⟩
    · exact ⟨6 / 7, fr_mk (by decide +kernel) (by decide +kernel), by decide +kernel, by decide +kernel, ⟨by decide +kernel, by decide +kernel⟩, 180, by decide +kernel, by decide⟩
  obtain ⟨q, rfl, hq⟩ := key
  exact ⟨o, r, q, hp, hq, e1⟩
/-! ### small ones, growth -/
def smq (q : Rat) : Bool := decide ((if (q.den : Int) > (q.num.natAbs : Int) then (q.den : Int) else (q.num.natAbs : Int)) < 10 ^ 12)
theorem smq_bq {q : Rat} (h : smq q = true) : Bq 40 q := by
  unfold smq at h
  rw [decide_eq_true_eq] at h
  split at h
  · exact ⟨by omega, by omega⟩
  · exact ⟨by omega, by omega⟩
theorem s_more {fu n : Nat} {a b c d : Rat} (h : Be 1900 a b) (g : Be 1900 c d) (hf : 8001 ≤ fu) : evF T fu (n + 4) "_law_event_more" [.val (ev a b), .val (ev c d)] = some (ev (c - a) (d - b), []) := by
  have m1 := s_lminus (fu := fu) (n := n) g.u h.u hf
  have m2 := s_lminus (fu := fu) (n := n) g.v h.v hf
  rw [ev1 (dd := d__law_event_more) (by kernel_rfl)]
  unfold d__law_event_more ev
  generalize fr (c - a) = r1 at *
  generalize fr (d - b) = r2 at *
  generalize fr a = a' at *
  generalize fr b = b' at *
  generalize fr c = c' at *
  generalize fr d = d' at *
  simp [evE, evT, evL, evA, evO, evAr, evS, evD, putS, peek, mutS, setM, opB, opC, opF, opIx, opSl, walk, unpS, bindT, refs, argS, putBack, permA, outsOf, atI, ixN, tru, setJ, m1, m2, lim, compL, wipeE, backE]
/-! ### the loops of the law -/
def bPair : Sm := (.seq (.iff (.tval (.call "_law_frac_is_less" [0, 1] (.cons (.tval (.var 9)) (.cons (.tval (.var 10)) .nil)))) (.seq (.asg 12 (.call "_law_event_more" [0, 1] (.cons (.tval (.mth (.ownk "Flight" "at" "Flight.at") (.var 5) (.cons (.tval (.var 9)) .nil))) (.cons (.tval (.mth (.ownk "Flight" "at" "Flight.at") (.var 5) (.cons (.tval (.var 10)) .nil))) .nil)))) (.seq (.iff (.tnot (.tval (.blt .all (.cons (.comp (.seq) (.cons (.var 12) .nil) (.many [14, 15]) .tyes (.cmp .gt (.var 14) (.con (.int 0))) [14, 15]) .nil)))) (.seq (.ret (.con (.bl false))) .nil) .nil) .nil)) .nil) .nil)
def eP (x0 x1 x2 x3 x5 x6 x7 x8 : Sl) (e4 e9 e10 e11 e12 : Option Sl) : Mn.Env := [some x0, some x1, some x2, some x3, e4, some x5, some x6, some x7, some x8, e9, e10, e11, e12, none, none, none]
/-! ### sides exchanged, seen by an onlooker -/
def flS (s : Stp) : Stp := ⟨s.t, s.v, s.u, 1 / s.p⟩
def flL (L : List Ln) : List Ln := L.map fun l => (l.1, if l.1 then l.2 else 1 / l.2)
def flZ (z : Stp × Rat) : Stp × Rat := (flS z.1, z.2)
theorem inv_mul (p w : Rat) : 1 / (p * w) = 1 / p * (1 / w) := by
  rw [Rat.div_def, Rat.div_def, Rat.div_def, Rat.inv_mul_rev]; grind
theorem inv_inv' (p : Rat) : 1 / (1 / p) = p := by
  rw [Rat.div_def, Rat.div_def, Rat.one_mul, Rat.one_mul, Rat.inv_inv]
theorem div_inv' (a p : Rat) : a / (1 / p) = a * p := by
  rw [Rat.div_def, Rat.div_def, Rat.one_mul, Rat.inv_inv]
theorem stp_flip : ∀ (L : List Ln) (t u v p : Rat), (stp t u v p L).map flS = stp t v u (1 / p) (flL L)
  | [], t, u, v, p => rfl
  | (false, w) :: L, t, u, v, p => by
    show (stp t u v (p * w) L).map flS = stp t v u (1 / p * (1 / w)) (flL L)
    rw [stp_flip L, inv_mul]
  | (true, w) :: L, t, u, v, p => by
    show (⟨t, v, u, 1 / p⟩ : Stp) :: (stp (t + w) (u + p * w) (v + w / p) p L).map flS = ⟨t, v, u, 1 / p⟩ :: stp (t + w) (v + 1 / p * w) (u + w / (1 / p)) (1 / p) (flL L)
    rw [stp_flip L, div_inv', show w / p = 1 / p * w by rw [Rat.div_def, Rat.div_def]; grind, show p * w = w * p by grind]
theorem last_flip : ∀ (L : List Ln) (t u v p : Rat), lastS t v u (1 / p) (flL L) = flS (lastS t u v p L)
  | [], t, u, v, p => rfl
  | (false, w) :: L, t, u, v, p => by
    show lastS t v u (1 / p * (1 / w)) (flL L) = flS (lastS t u v (p * w) L)
    rw [← last_flip L, inv_mul]
  | (true, w) :: L, t, u, v, p => by
    show lastS (t + w) (v + 1 / p * w) (u + w / (1 / p)) (1 / p) (flL L) = flS (lastS (t + w) (u + p * w) (v + w / p) p L)
    rw [← last_flip L, div_inv', show w / p = 1 / p * w by rw [Rat.div_def, Rat.div_def]; grind, show p * w = w * p by grind]
theorem legs_flip : ∀ (L : List Ln) (t u v p : Rat), (legs t u v p L).map flZ = legs t v u (1 / p) (flL L)
  | [], t, u, v, p => rfl
  | (false, w) :: L, t, u, v, p => by
    show (legs t u v (p * w) L).map flZ = legs t v u (1 / p * (1 / w)) (flL L)
    rw [legs_flip L, inv_mul]
  | (true, w) :: L, t, u, v, p => by
    show ((⟨t, v, u, 1 / p⟩ : Stp), w) :: (legs (t + w) (u + p * w) (v + w / p) p L).map flZ = (⟨t, v, u, 1 / p⟩, w) :: legs (t + w) (v + 1 / p * w) (u + w / (1 / p)) (1 / p) (flL L)
    rw [legs_flip L, div_inv', show w / p = 1 / p * w by rw [Rat.div_def, Rat.div_def]; grind, show p * w = w * p by grind]
theorem lawAt_flip (τ : Rat) : ∀ (G : List (Stp × Rat)) (a : Rat × Rat), lawAt τ (a.2, a.1) (G.map flZ) = ((lawAt τ a G).2, (lawAt τ a G).1)
  | [], a => rfl
  | (s, w) :: G, a => by
    rw [List.map_cons]
    show lawAt τ (if τ < s.t then (a.2, a.1) else (s.v + 1 / s.p * (if w < τ - s.t then w else τ - s.t), s.u + (if w < τ - s.t then w else τ - s.t) / (1 / s.p))) (G.map flZ) = _
    rw [show lawAt τ a ((s, w) :: G) = lawAt τ (if τ < s.t then a else (s.u + s.p * (if w < τ - s.t then w else τ - s.t), s.v + (if w < τ - s.t then w else τ - s.t) / s.p)) G from rfl]
    rw [← lawAt_flip τ G]
    congr 1
    generalize (if w < τ - s.t then w else τ - s.t) = d
    by_cases c : τ < s.t
    · rw [if_pos c, if_pos c]
    · rw [if_neg c, if_neg c, div_inv']
      show (s.v + 1 / s.p * d, s.u + d * s.p) = (s.v + d / s.p, s.u + s.p * d)
      rw [show d / s.p = 1 / s.p * d by rw [Rat.div_def, Rat.div_def]; grind, show s.p * d = d * s.p by grind]
def seS (k : Rat) (s : Stp) : Stp := ⟨s.t, s.u / k, k * s.v, s.p / k⟩
theorem stp_seen {k : Rat} (k0 : 0 < k) : ∀ (L : List Ln) (t u v p : Rat), (stp t u v p L).map (seS k) = stp t (u / k) (k * v) (p / k) L
  | [], t, u, v, p => rfl
  | (false, w) :: L, t, u, v, p => by
    show (stp t u v (p * w) L).map (seS k) = stp t (u / k) (k * v) (p / k * w) L
    rw [stp_seen k0 L, show p * w / k = p / k * w by grind]
  | (true, w) :: L, t, u, v, p => by
    show (⟨t, u / k, k * v, p / k⟩ : Stp) :: (stp (t + w) (u + p * w) (v + w / p) p L).map (seS k) = ⟨t, u / k, k * v, p / k⟩ :: stp (t + w) (u / k + p / k * w) (k * v + w / (p / k)) (p / k) L
    rw [stp_seen k0 L, show (u + p * w) / k = u / k + p / k * w by grind, show k * (v + w / p) = k * v + w / (p / k) by
      rw [Rat.div_def, Rat.div_def, Rat.div_def, Rat.inv_mul_rev, Rat.inv_inv]; grind]
theorem last_seen {k : Rat} (k0 : 0 < k) : ∀ (L : List Ln) (t u v p : Rat), lastS t (u / k) (k * v) (p / k) L = seS k (lastS t u v p L)
  | [], t, u, v, p => rfl
  | (false, w) :: L, t, u, v, p => by
    show lastS t (u / k) (k * v) (p / k * w) L = seS k (lastS t u v (p * w) L)
    rw [← last_seen k0 L, show p * w / k = p / k * w by grind]
  | (true, w) :: L, t, u, v, p => by
    show lastS (t + w) (u / k + p / k * w) (k * v + w / (p / k)) (p / k) L = seS k (lastS (t + w) (u + p * w) (v + w / p) p L)
    rw [← last_seen k0 L, show (u + p * w) / k = u / k + p / k * w by grind, show k * (v + w / p) = k * v + w / (p / k) by
      rw [Rat.div_def, Rat.div_def, Rat.div_def, Rat.inv_mul_rev, Rat.inv_inv]; grind]
def seZ (k : Rat) (z : Stp × Rat) : Stp × Rat := (seS k z.1, z.2)
theorem legs_seen {k : Rat} (k0 : 0 < k) : ∀ (L : List Ln) (t u v p : Rat), (legs t u v p L).map (seZ k) = legs t (u / k) (k * v) (p / k) L
  | [], t, u, v, p => rfl
  | (false, w) :: L, t, u, v, p => by
    show (legs t u v (p * w) L).map (seZ k) = legs t (u / k) (k * v) (p / k * w) L
    rw [legs_seen k0 L, show p * w / k = p / k * w by grind]
  | (true, w) :: L, t, u, v, p => by
    show ((⟨t, u / k, k * v, p / k⟩ : Stp), w) :: (legs (t + w) (u + p * w) (v + w / p) p L).map (seZ k) = (⟨t, u / k, k * v, p / k⟩, w) :: legs (t + w) (u / k + p / k * w) (k * v + w / (p / k)) (p / k) L
    rw [legs_seen k0 L, show (u + p * w) / k = u / k + p / k * w by grind, show k * (v + w / p) = k * v + w / (p / k) by
      rw [Rat.div_def, Rat.div_def, Rat.div_def, Rat.inv_mul_rev, Rat.inv_inv]; grind]
theorem lawAt_seen {k : Rat} (k0 : 0 < k) (τ : Rat) : ∀ (G : List (Stp × Rat)) (a : Rat × Rat), lawAt τ (a.1 / k, k * a.2) (G.map (seZ k)) = ((lawAt τ a G).1 / k, k * (lawAt τ a G).2)
  | [], a => rfl
  | (s, w) :: G, a => by
    rw [List.map_cons]
    show lawAt τ (if τ < s.t then (a.1 / k, k * a.2) else (s.u / k + s.p / k * (if w < τ - s.t then w else τ - s.t), k * s.v + (if w < τ - s.t then w else τ - s.t) / (s.p / k))) (G.map (seZ k)) = _
    rw [show lawAt τ a ((s, w) :: G) = lawAt τ (if τ < s.t then a else (s.u + s.p * (if w < τ - s.t then w else τ - s.t), s.v + (if w < τ - s.t then w else τ - s.t) / s.p)) G from rfl]
    rw [← lawAt_seen k0 τ G]
    congr 1
    generalize (if w < τ - s.t then w else τ - s.t) = d
    by_cases c : τ < s.t
    · rw [if_pos c, if_pos c]
    · rw [if_neg c, if_neg c]
      show (s.u / k + s.p / k * d, k * s.v + d / (s.p / k)) = ((s.u + s.p * d) / k, k * (s.v + d / s.p))
      rw [show (s.u + s.p * d) / k = s.u / k + s.p / k * d by grind, show k * (s.v + d / s.p) = k * s.v + d / (s.p / k) by
        rw [Rat.div_def, Rat.div_def, Rat.div_def, Rat.inv_mul_rev, Rat.inv_inv]; grind]
theorem timeU_seen {k : Rat} (k0 : 0 < k) (S : List Stp) (w x : Rat) : timeU (S.map (seS k)) w (x / k) = timeU S w x := by
  have dl : ∀ a : Rat, x / k < a / k ↔ x < a := by
    intro a
    constructor
    · intro h
      have := Rat.mul_lt_mul_of_pos_left h k0
      have kn : k ≠ 0 := by grind
      have e1 : k * (x / k) = x := by grind
      have e2 : k * (a / k) = a := by grind
      grind
    · intro h
      have : 0 < (a - x) / k := divp (by grind) k0
      grind
  have f : (S.map (seS k)).filter (fun s => !decide (x / k < s.u)) = (S.filter fun s => !decide (x < s.u)).map (seS k) := by
    rw [List.filter_map]
    congr 1
    refine List.filter_congr fun s _ => ?_
    show (!decide (x / k < s.u / k)) = _
    congr 1
    exact decide_eq_decide.2 (dl s.u)
  unfold timeU
  rw [f, List.getLast?_map]
  cases (S.filter fun s => !decide (x < s.u)).getLast? with
  | none => rfl
  | some s =>
    have e : s.t + (x / k - s.u / k) / (s.p / k) = s.t + (x - s.u) / s.p := by
      rw [show x / k - s.u / k = (x - s.u) / k by grind]
      congr 1
      rw [Rat.div_def, Rat.div_def, Rat.div_def, Rat.div_def, Rat.inv_mul_rev, Rat.inv_inv]; grind
    show (if w < s.t + (x / k - s.u / k) / (s.p / k) then none else some (s.t + (x / k - s.u / k) / (s.p / k))) = (if w < s.t + (x - s.u) / s.p then none else some (s.t + (x - s.u) / s.p))
    rw [e]
theorem flS_seen {k : Rat} (k0 : 0 < k) (s : Stp) : flS (seS k s) = seS (1 / k) (flS s) := by
  show (⟨s.t, k * s.v, s.u / k, 1 / (s.p / k)⟩ : Stp) = ⟨s.t, s.v / (1 / k), 1 / k * s.u, 1 / s.p / (1 / k)⟩
  have e1 : s.v / (1 / k) = k * s.v := by rw [div_inv']; grind
  have e2 : 1 / k * s.u = s.u / k := by rw [Rat.div_def, Rat.div_def]; grind
  have e3 : 1 / s.p / (1 / k) = 1 / (s.p / k) := by
    rw [div_inv', Rat.div_def, Rat.div_def, Rat.div_def, Rat.inv_mul_rev, Rat.inv_inv]; grind
  rw [e1, e2, e3]
/-- the u at the time that is told for it -/
theorem timeU_plc : ∀ {L : List Ln} {t u v p x τ : Rat}, 0 < p → (∀ l ∈ L, 0 < l.2) → timeU (stp t u v p L) (lastS t u v p L).t x = some τ → u ≤ x ∧ t ≤ τ ∧ τ ≤ (lastS t u v p L).t ∧ (lawAt τ (u, v) (legs t u v p L)).1 = x
  | [], t, u, v, p, x, τ, p0, hL, h => by
    have ux : u ≤ x := by
      by_cases c : x < u
      · rw [timeU_before p0 hL c] at h; cases h
      · grind
    rw [show timeU (stp t u v p []) (lastS t u v p []).t x = timeU [⟨t, u, v, p⟩] t x from rfl] at h
    unfold timeU at h
    rw [List.filter_cons_of_pos (by have q : ¬ x < u := by grind
                                    simp [evE, evT, evL, evA, evO, evAr, evS, evD, putS, peek, mutS, setM, opB, opC, opF, opIx, opSl, walk, unpS, bindT, refs, argS, putBack, permA, outsOf, atI, ixN, tru, setJ, q])] at h
    have h' : (if t < t + (x - u) / p then none else some (t + (x - u) / p)) = some τ := h
    by_cases c : t < t + (x - u) / p
    · rw [if_pos c] at h'; cases h'
    · rw [if_neg c] at h'
      cases h'
      have d0 := div_ge (a := x - u) (b := p) (by grind) p0
      have z : (x - u) / p = 0 := by grind
      have e : x - u = p * ((x - u) / p) := by have : p ≠ 0 := by grind
                                               grind
      rw [z] at e ⊢
      refine ⟨ux, by grind, by show t + 0 ≤ t; grind, ?_⟩
      show u = x
      grind
  | (false, w) :: L, t, u, v, p, x, τ, p0, hL, h => timeU_plc (L := L) (Rat.mul_pos p0 (hL (false, w) List.mem_cons_self)) (fun l m => hL l (List.mem_cons_of_mem _ m)) h
  | (true, w) :: L, t, u, v, p, x, τ, p0, hL, h => by
    have w0 : 0 < w := hL _ List.mem_cons_self
    have hL' : ∀ l ∈ L, 0 < l.2 := fun l m => hL l (List.mem_cons_of_mem _ m)
    have ux : u ≤ x := by
      by_cases c : x < u
      · rw [timeU_before p0 hL c] at h; cases h
      · grind
    have pw := Rat.mul_pos p0 w0
    have lg := last_ge (L := L) (t := t + w) (u := u + p * w) (v := v + w / p) (p := p) hL'
    have first : (!decide (x < (⟨t, u, v, p⟩ : Stp).u)) = true := by
      have q : ¬ x < u := by grind
      simp [evE, evT, evL, evA, evO, evAr, evS, evD, putS, peek, mutS, setM, opB, opC, opF, opIx, opSl, walk, unpS, bindT, refs, argS, putBack, permA, outsOf, atI, ixN, tru, setJ, q]
    have d0 := div_ge (a := x - u) (b := p) (by grind) p0
    have dl : (x - u) / p < w ↔ x - u < p * w := div_lt_iff' p0
    have h2 : timeU ((⟨t, u, v, p⟩ : Stp) :: stp (t + w) (u + p * w) (v + w / p) p L) (lastS (t + w) (u + p * w) (v + w / p) p L).t x = some τ := h
    show u ≤ x ∧ t ≤ τ ∧ τ ≤ (lastS (t + w) (u + p * w) (v + w / p) p L).t ∧ (lawAt τ (u, v) (((⟨t, u, v, p⟩ : Stp), w) :: legs (t + w) (u + p * w) (v + w / p) p L)).1 = x
    by_cases c : x < u + p * w
    · unfold timeU at h2
      rw [List.filter_cons_of_pos (p := fun s : Stp => !decide (x < s.u)) first, stp_out p0 hL' c] at h2
      have h' : (if (lastS (t + w) (u + p * w) (v + w / p) p L).t < t + (x - u) / p then none else some (t + (x - u) / p)) = some τ := h2
      have d1 : (x - u) / p < w := dl.2 (by grind)
      rw [if_neg (by grind)] at h'
      cases h'
      refine ⟨ux, by grind, by grind, ?_⟩
      unfold lawAt
      rw [if_neg (by grind), if_neg (show ¬ w < t + (x - u) / p - t by grind), lawAt_later]
      · show u + p * (t + (x - u) / p - t) = x
        have e : x - u = p * ((x - u) / p) := by have : p ≠ 0 := by grind
                                                 grind
        grind
      · intro z hz
        have := legs_ge hL' z hz
        grind
    · have rest : timeU ((⟨t, u, v, p⟩ : Stp) :: stp (t + w) (u + p * w) (v + w / p) p L) (lastS (t + w) (u + p * w) (v + w / p) p L).t x = timeU (stp (t + w) (u + p * w) (v + w / p) p L) (lastS (t + w) (u + p * w) (v + w / p) p L).t x := by
        unfold timeU
        rw [List.filter_cons_of_pos (p := fun s : Stp => !decide (x < s.u)) first]
        have ne := filter_ne (L := L) (t := t + w) (u := u + p * w) (v := v + w / p) (p := p) (x := x) (by grind)
        cases hF : (stp (t + w) (u + p * w) (v + w / p) p L).filter (fun s => !decide (x < s.u)) with
        | nil => exact absurd hF ne
        | cons a r => rw [List.getLast?_cons_cons]
      rw [rest] at h2
      obtain ⟨a1, a2, a3, a4⟩ := timeU_plc p0 hL' h2
      refine ⟨ux, by grind, a3, ?_⟩
      rw [← a4]
      have mn : (if w < τ - t then w else τ - t) = w := by
        by_cases d : w < τ - t
        · rw [if_pos d]
        · rw [if_neg d]; grind
      rw [show lawAt τ (u, v) (((⟨t, u, v, p⟩ : Stp), w) :: legs (t + w) (u + p * w) (v + w / p) p L) = lawAt τ (if τ < t then (u, v) else (u + p * (if w < τ - t then w else τ - t), v + (if w < τ - t then w else τ - t) / p)) (legs (t + w) (u + p * w) (v + w / p) p L) from rfl, if_neg (by grind), mn]
theorem Bq.inv {k : Nat} {q : Rat} (h : Bq k q) (h0 : 0 < q) : Bq k (1 / q) := by
  have e := fr_rec h0
  unfold fr at e
  injection e with e
  injection e with e1 e2
  injection e1 with e1
  injection e2 with e2 _
  injection e2 with e2
  have hn : (1 / q).num = (q.den : Int) := e1.symm
  have hd : ((1 / q).den : Int) = q.num := e2.symm
  have a := h.n
  have b := h.d
  exact ⟨by rw [hn, Int.natAbs_natCast]; exact b, by omega⟩
theorem invp {q : Rat} (h0 : 0 < q) : 0 < 1 / q := divp (by decide) h0
theorem Fly.flip (F : Fly u v p L) : Fly v u (1 / p) (flL L) where
  he := ⟨F.he.v, F.he.u⟩
  hp := F.hp.inv F.p0
  p0 := invp F.p0
  h4 := fun l m => by
    obtain ⟨⟨b, w⟩, hm, rfl⟩ := List.mem_map.1 m
    obtain ⟨h1, h2⟩ := F.h4 _ hm
    cases b with
    | true => exact ⟨h1, h2⟩
    | false => exact ⟨h1.inv h2, invp h2⟩
  hg := fun l m e => by
    obtain ⟨⟨b, w⟩, hm, rfl⟩ := List.mem_map.1 m
    cases b with
    | true => exact F.hg _ hm rfl
    | false => cases e
  hn := by unfold flL; rw [List.length_map]; exact F.hn
theorem Fly.seen (F : Fly u v p L) (h : Be 11 u v) (hp : Bq 3 p) {k : Rat} (hk : Bq 3 k) (k0 : 0 < k) : Fly (u / k) (k * v) (p / k) L where
  he := ⟨(h.u.div hk k0).le (by decide), (hk.mul h.v).le (by decide)⟩
  hp := (hp.div hk k0).le (by decide)
  p0 := divp F.p0 k0
  h4 := F.h4
  hg := F.hg
  hn := F.hn
theorem plc_flip (τ : Rat) : plc v u (1 / p) (flL L) τ = ((plc u v p L τ).2, (plc u v p L τ).1) := by
  unfold plc
  rw [← legs_flip L 0 u v p]
  exact lawAt_flip τ _ (u, v)
theorem plc_seen {k : Rat} (k0 : 0 < k) (τ : Rat) : plc (u / k) (k * v) (p / k) L τ = ((plc u v p L τ).1 / k, k * (plc u v p L τ).2) := by
  unfold plc
  rw [← legs_seen k0 L 0 u v p]
  exact lawAt_seen k0 τ _ (u, v)
/-- the time at which its v is y -/
abbrev tmV (u v p : Rat) (L : List Ln) (y : Rat) : Option Rat := tmU v u (1 / p) (flL L) y
theorem tmV_is {y : Rat} : tmV u v p L y = timeU ((stp 0 u v p L).map flS) (lastS 0 u v p L).t y := by
  show timeU (stp 0 v u (1 / p) (flL L)) (lastS 0 v u (1 / p) (flL L)).t y = _
  rw [stp_flip, last_flip]; rfl
theorem tmU_seen {k : Rat} (k0 : 0 < k) (x : Rat) : tmU (u / k) (k * v) (p / k) L (x / k) = tmU u v p L x := by
  show timeU (stp 0 (u / k) (k * v) (p / k) L) (lastS 0 (u / k) (k * v) (p / k) L).t (x / k) = _
  rw [← stp_seen k0, last_seen k0, timeU_seen k0]; rfl
theorem tmV_seen {k : Rat} (k0 : 0 < k) (y : Rat) : tmV (u / k) (k * v) (p / k) L (k * y) = tmV u v p L y := by
  rw [tmV_is, tmV_is, ← stp_seen k0, last_seen k0, List.map_map]
  have e : (stp 0 u v p L).map (flS ∘ seS k) = ((stp 0 u v p L).map flS).map (seS (1 / k)) := by
    rw [List.map_map]
    exact List.map_congr_left fun s _ => flS_seen k0 s
  rw [e, show k * y = y / (1 / k) by rw [div_inv']; grind, timeU_seen (invp k0)]
  rfl
theorem flL_flL : flL (flL L) = L := by
  unfold flL
  rw [List.map_map]
  conv => rhs; rw [← List.map_id L]
  refine List.map_congr_left fun l _ => ?_
  obtain ⟨b, w⟩ := l
  cases b with
  | true => rfl
  | false => show (false, 1 / (1 / w)) = (false, w); rw [inv_inv']
theorem tmV_flip {x : Rat} : tmV v u (1 / p) (flL L) x = tmU u v p L x := by
  show tmU u v (1 / (1 / p)) (flL (flL L)) x = _
  rw [inv_inv', flL_flL]
theorem last_flip_t : (lastS 0 v u (1 / p) (flL L)).t = (lastS 0 u v p L).t := by rw [last_flip]; rfl
theorem tmU_plc (F : Fly u v p L) {x τ : Rat} (h : tmU u v p L x = some τ) : (plc u v p L τ).1 = x := (timeU_plc F.p0 F.l0 h).2.2.2
theorem tmV_plc (F : Fly u v p L) {y τ : Rat} (h : tmV u v p L y = some τ) : (plc u v p L τ).2 = y := by
  have := tmU_plc F.flip h
  rw [plc_flip] at this
  exact this
theorem tmV_tq (F : Fly u v p L) {y τ : Rat} (hy : Bq 540 y) (h : tmV u v p L y = some τ) : Tq u v p L τ := by
  obtain ⟨a, b, c⟩ := timeU_tq F.flip hy h
  exact ⟨a, by rw [← last_flip_t (u := u) (v := v) (p := p)]; exact b, c⟩
/-- u and v grow -/
theorem plc_mono (F : Fly u v p L) {σ τ : Rat} (h : σ < τ) (h0 : 0 ≤ σ) (h1 : τ ≤ (lastS 0 u v p L).t) : (plc u v p L σ).1 < (plc u v p L τ).1 ∧ (plc u v p L σ).2 < (plc u v p L τ).2 := at_mono h F.p0 F.l0 h0 h1
/-! ### what is heard -/
def heardG (rv ru : Option Rat) (pl : Rat → Rat × Rat) (x y : Rat) : Option (Bool × Rat) :=
  let right := match ru with
    | some τ => if y < (pl τ).2 then some (false, τ) else none
    | none => none
  match rv with
  | some τ => if x < (pl τ).1 then some (true, τ) else right
  | none => right
def heardW (u v p : Rat) (L : List Ln) (x y : Rat) : Option (Bool × Rat) := heardG (tmV u v p L y) (tmU u v p L x) (plc u v p L) x y
theorem heard_seen {k x y : Rat} (k0 : 0 < k) : heardW (u / k) (k * v) (p / k) L (x / k) (k * y) = heardW u v p L x y := by
  have dl : ∀ a b : Rat, a / k < b / k ↔ a < b := by
    intro a b
    have kn : k ≠ 0 := by grind
    constructor
    · intro h
      have := Rat.mul_lt_mul_of_pos_left h k0
      have e1 : k * (a / k) = a := by grind
      have e2 : k * (b / k) = b := by grind
      grind
    · intro h
      have : 0 < (b - a) / k := divp (by grind) k0
      grind
  have dm : ∀ a b : Rat, k * a < k * b ↔ a < b := by
    intro a b
    constructor
    · intro h
      by_cases c : a < b
      · exact c
      · have := Rat.mul_le_mul_of_nonneg_left (Rat.not_lt.1 c) (Rat.le_of_lt k0)
        grind
    · exact fun h => Rat.mul_lt_mul_of_pos_left h k0
  unfold heardW heardG
  rw [tmU_seen k0, tmV_seen k0]
  simp only [plc_seen k0, dl, dm]
theorem heard_excl (F : Fly u v p L) {x y σ τ : Rat} (h1 : tmV u v p L y = some σ) (h2 : tmU u v p L x = some τ) (h3 : x < (plc u v p L σ).1) (h4 : y < (plc u v p L τ).2) : False := by
  have a := tmV_plc F h1
  have b := tmU_plc F h2
  obtain ⟨_, a0, a1, _⟩ := timeU_plc F.flip.p0 F.flip.l0 h1
  rw [last_flip_t] at a1
  obtain ⟨_, b0, b1, _⟩ := timeU_plc F.p0 F.l0 h2
  by_cases c : σ < τ
  · have := plc_mono F c a0 b1
    grind
  · by_cases d : τ < σ
    · have := plc_mono F d b0 a1
      grind
    · have : σ = τ := by grind
      subst this
      grind
def swapH : Option (Bool × Rat) → Option (Bool × Rat) := Option.map fun z => (!z.1, z.2)
theorem heard_flip (F : Fly u v p L) {x y : Rat} : heardW v u (1 / p) (flL L) y x = swapH (heardW u v p L x y) := by
  unfold heardW heardG
  rw [tmV_flip]
  simp only [plc_flip]
  show (match tmU u v p L x with
    | some τ => if y < (plc u v p L τ).2 then some (true, τ) else (match tmV u v p L y with
      | some τ => if x < (plc u v p L τ).1 then some (false, τ) else none
      | none => none)
    | none => (match tmV u v p L y with
      | some τ => if x < (plc u v p L τ).1 then some (false, τ) else none
      | none => none)) = swapH (match tmV u v p L y with
      | some τ => if x < (plc u v p L τ).1 then some (true, τ) else (match tmU u v p L x with
        | some τ => if y < (plc u v p L τ).2 then some (false, τ) else none
        | none => none)
      | none => (match tmU u v p L x with
        | some τ => if y < (plc u v p L τ).2 then some (false, τ) else none
        | none => none))
  cases hU : tmU u v p L x with
  | none =>
    cases hV : tmV u v p L y with
    | none => rfl
    | some σ =>
      show (if x < (plc u v p L σ).1 then some (false, σ) else none) = swapH (if x < (plc u v p L σ).1 then some (true, σ) else none)
      split <;> rfl
  | some τ =>
    cases hV : tmV u v p L y with
    | none =>
      show (if y < (plc u v p L τ).2 then some (true, τ) else none) = swapH (if y < (plc u v p L τ).2 then some (false, τ) else none)
      split <;> rfl
    | some σ =>
      show (if y < (plc u v p L τ).2 then some (true, τ) else (if x < (plc u v p L σ).1 then some (false, σ) else none)) = swapH (if x < (plc u v p L σ).1 then some (true, σ) else (if y < (plc u v p L τ).2 then some (false, τ) else none))
      by_cases c : x < (plc u v p L σ).1
      · by_cases d : y < (plc u v p L τ).2
        · exact (heard_excl F hV hU c d).elim
        · rw [if_neg d, if_pos c, if_pos c]; rfl
      · rw [if_neg c, if_neg c]
        split <;> rfl
/-- when and how a flash is heard -/
theorem heard_right (F : Fly u v p L) {x y τ : Rat} {b : Bool} (h : heardW u v p L x y = some (b, τ)) :
    0 ≤ τ ∧ τ ≤ (lastS 0 u v p L).t ∧ ((b = true ∧ tmV u v p L y = some τ ∧ (plc u v p L τ).2 = y ∧ x < (plc u v p L τ).1) ∨ (b = false ∧ tmU u v p L x = some τ ∧ (plc u v p L τ).1 = x ∧ y < (plc u v p L τ).2)) := by
  have right : (match tmU u v p L x with
        | some τ => if y < (plc u v p L τ).2 then some (false, τ) else none
        | none => none) = some (b, τ) → 0 ≤ τ ∧ τ ≤ (lastS 0 u v p L).t ∧ ((b = true ∧ tmV u v p L y = some τ ∧ (plc u v p L τ).2 = y ∧ x < (plc u v p L τ).1) ∨ (b = false ∧ tmU u v p L x = some τ ∧ (plc u v p L τ).1 = x ∧ y < (plc u v p L τ).2)) := by
    intro h
    cases hU : tmU u v p L x with
    | none => rw [hU] at h; cases h
    | some σ =>
      rw [hU] at h
      have h : (if y < (plc u v p L σ).2 then some (false, σ) else none) = some (b, τ) := h
      by_cases c : y < (plc u v p L σ).2
      · rw [if_pos c] at h
        cases h
        obtain ⟨_, b0, b1, e⟩ := timeU_plc F.p0 F.l0 hU
        exact ⟨b0, b1, .inr ⟨rfl, rfl, e, c⟩⟩
      · rw [if_neg c] at h; cases h
  unfold heardW heardG at h
  cases hV : tmV u v p L y with
  | none =>
    rw [hV] at h right
    exact right h
  | some σ =>
    rw [hV] at h
    have h : (if x < (plc u v p L σ).1 then some (true, σ) else (match tmU u v p L x with
        | some τ => if y < (plc u v p L τ).2 then some (false, τ) else none
        | none => none)) = some (b, τ) := h
    by_cases c : x < (plc u v p L σ).1
    · rw [if_pos c] at h
      cases h
      obtain ⟨_, a0, a1, _⟩ := timeU_plc F.flip.p0 F.flip.l0 hV
      rw [last_flip_t] at a1
      exact ⟨a0, a1, .inl ⟨rfl, rfl, tmV_plc F hV, c⟩⟩
    · rw [if_neg c] at h
      rw [hV] at right
      exact right h
/-! ### the times at which v is worth -/
theorem s_inverse {fu n : Nat} {q : Rat} (h : 0 < q) : evF T fu (n + 1) "inverse" [.val (fr q)] = some (fr (1 / q), []) := by
  rw [ev1 (dd := d_inverse) (by kernel_rfl), ← fr_rec h]
  unfold d_inverse fr
  simp [evE, evT, evL, evA, evO, evAr, evS, evD, putS, peek, mutS, setM, opB, opC, opF, opIx, opSl, walk, unpS, bindT, refs, argS, putBack, permA, outsOf, atI, ixN, tru, setJ, show 2 ≤ lim by decide]
/-! ### what can be come to -/
inductive Wd | plan | behind | bu | bv
def wOf (u v m : Rat) : Wd := if u < 0 ∨ v < 0 then .behind else if m * m * v < u then .bu else if m * m * u < v then .bv else .plan
def dueD : Wd → D
  | .plan => .tup [.str "plan"]
  | .behind => .tup [.str "behind"]
  | .bu => .tup [.str "beyond", .str "u"]
  | .bv => .tup [.str "beyond", .str "v"]
def wD : Wd → D
  | .plan => .str "plan"
  | .behind => .tup [.str "behind"]
  | .bu => .tup [.str "beyond", .str "u"]
  | .bv => .tup [.str "beyond", .str "v"]
def Wd.about : Wd → Wd | .bu => .bv | .bv => .bu | w => w
theorem mpos {a b : Rat} (ha : 0 ≤ a) (hb : 0 ≤ b) : 0 ≤ a * b := Rat.mul_nonneg ha hb
theorem w_plan {u v m : Rat} : wOf u v m = .plan ↔ (0 ≤ u ∧ 0 ≤ v) ∧ u ≤ m * m * v ∧ v ≤ m * m * u := by
  unfold wOf
  by_cases h1 : u < 0 ∨ v < 0
  · rw [if_pos h1]
    constructor
    · intro h; cases h
    · intro h; grind
  · rw [if_neg h1]
    by_cases h2 : m * m * v < u
    · rw [if_pos h2]
      constructor
      · intro h; cases h
      · intro h; grind
    · rw [if_neg h2]
      by_cases h3 : m * m * u < v
      · rw [if_pos h3]
        constructor
        · intro h; cases h
        · intro h; grind
      · rw [if_neg h3]
        constructor
        · intro _; grind
        · intro _; rfl
theorem w_add {u v x y m : Rat} (h : wOf u v m = .plan) (g : wOf x y m = .plan) : wOf (u + x) (v + y) m = .plan := by
  rw [w_plan] at h g ⊢
  obtain ⟨⟨a, b⟩, c, d⟩ := h
  obtain ⟨⟨a', b'⟩, c', d'⟩ := g
  refine ⟨⟨by grind, by grind⟩, by grind, by grind⟩
theorem w_self {m : Rat} : wOf 0 0 m = .plan := by
  rw [w_plan]
  refine ⟨⟨Rat.le_refl, Rat.le_refl⟩, by grind, by grind⟩
theorem w_more {u v m : Rat} (h : wOf u v m = .plan) : wOf u v (m * (3 / 2)) = .plan := by
  rw [w_plan] at h ⊢
  obtain ⟨⟨a, b⟩, c, d⟩ := h
  have e : ∀ z : Rat, m * (3 / 2) * (m * (3 / 2)) * z = m * m * z + 5 / 4 * (m * m * z) := fun z => by grind
  have p1 : 0 ≤ m * m * v := Rat.le_trans a c
  have p2 : 0 ≤ m * m * u := Rat.le_trans b d
  refine ⟨⟨a, b⟩, ?_, ?_⟩
  · rw [e]; grind
  · rw [e]; grind
theorem w_about {u v m : Rat} (hm : 1 ≤ m) : wOf v u m = (wOf u v m).about := by
  have mm : 1 ≤ m * m := by
    have := Rat.mul_le_mul_of_nonneg_left hm (show (0 : Rat) ≤ m by grind)
    grind
  have up : ∀ z : Rat, 0 ≤ z → z ≤ m * m * z := fun z hz => by
    have := Rat.mul_le_mul_of_nonneg_right mm hz
    grind
  unfold wOf
  by_cases h1 : u < 0 ∨ v < 0
  · rw [if_pos h1, if_pos (by grind)]; rfl
  · rw [if_neg h1, if_neg (by grind)]
    have u0 : 0 ≤ u := by grind
    have v0 : 0 ≤ v := by grind
    by_cases h2 : m * m * v < u
    · rw [if_pos h2]
      have := up v v0
      have := up u u0
      rw [if_neg (by grind), if_pos h2]; rfl
    · rw [if_neg h2]
      by_cases h3 : m * m * u < v
      · rw [if_pos h3, if_neg h2, if_pos h3]; rfl
      · rw [if_neg h3, if_neg h2, if_neg h3]; rfl
theorem s_one {fu n : Nat} : evF T fu (n + 1) "ONE" [] = some (fr 1, []) := by
  rw [ev1 (dd := d_ONE) (by kernel_rfl)]
  unfold d_ONE
  rw [fr_one]
  simp [evE, evT, evL, evA, evO, evAr, evS, evD, putS, peek, mutS, setM, opB, opC, opF, opIx, opSl, walk, unpS, bindT, refs, argS, putBack, permA, outsOf, atI, ixN, tru, setJ, show 2 ≤ lim by decide]
theorem s_ckmost {fu n k : Nat} {m : Rat} (hk : Bq k m) (kk : k ≤ 3000) (hm : 1 ≤ m) : evF T fu (n + 3) "check_most" [.val (fr m)] = some (.non, []) := by
  have f := s_frac (fu := fu) (n := n) (q := m)
  have o := s_one (fu := fu) (n := n + 1)
  have l := s_less (fu := fu) (n := n + 1) (hk.le kk) (⟨by decide +kernel, by decide +kernel⟩ : Bq 3000 (1 : Rat))
  rw [decide_eq_false (by grind)] at l
  rw [ev1 (dd := d_check_most) (by kernel_rfl)]
  unfold d_check_most
  generalize fr m = mm at *
  generalize fr 1 = oo at *
  simp [evE, evT, evL, evA, evO, evAr, evS, evD, putS, peek, mutS, setM, opB, opC, opF, opIx, opSl, walk, unpS, bindT, refs, argS, putBack, permA, outsOf, atI, ixN, tru, setJ, f, o, l]
theorem s_flownpX {fu n : Nat} {a b c d : Rat} : evF T fu (n + 2) "flown_pieces" [.val (.tup [.tup [fr a, fr b], .tup [fr c, fr d]])] = some (.tup (([(a, b), (c, d)].filter fun z => !decide (z.2 = 0)).map fun z => D.tup [fr z.1, fr z.2]), []) := by
  have z := s_zero (fu := fu) (n := n)
  have ne : ∀ q : Rat, opC .ne (fr q) (fr 0) = some (!decide (q = 0)) := fun q => by simp [evE, evT, evL, evA, evO, evAr, evS, evD, putS, peek, mutS, setM, opB, opC, opF, opIx, opSl, walk, unpS, bindT, refs, argS, putBack, permA, outsOf, atI, ixN, tru, setJ, dsh_fr, deq_fr]
  have key := compL_filter (el := fun e => evE (evF T fu (n + 1)) (.tup (.cons (.var 1) (.cons (.var 2) .nil))) e) (cd := fun e => evT (evF T fu (n + 1)) (.tval (.cmp .ne (.var 2) (.glo "ZERO"))) e) (tg := .many [1, 2]) (own := [1, 2]) (env := [some (.val (.tup [.tup [fr a, fr b], .tup [fr c, fr d]])), none, none]) (f := fun z => D.tup [fr z.1, fr z.2]) (g := fun z => D.tup [fr z.1, fr z.2]) (b := fun z => !decide (z.2 = 0)) (its := [(a, b), (c, d)]) (by
    intro z hz
    refine ⟨[some (.val (.tup [.tup [fr a, fr b], .tup [fr c, fr d]])), some (.val (fr z.1)), some (.val (fr z.2))], rfl, ?_, ?_, rfl⟩
    · have n1 := ne z.2
      generalize D.tup [.tup [fr a, fr b], .tup [fr c, fr d]] = PP
      generalize (!decide (z.2 = 0)) = bb at *
      generalize fr z.1 = z1 at *
      generalize fr z.2 = z2 at *
      generalize fr 0 = z0 at *
      show evT (evF T fu (n + 1)) (.tval (.cmp .ne (.var 2) (.glo "ZERO"))) [some (.val PP), some (.val z1), some (.val z2)] = some (bb, [some (.val PP), some (.val z1), some (.val z2)])
      simp [evE, evT, evL, evA, evO, evAr, evS, evD, putS, peek, mutS, setM, opB, opF, opIx, opSl, walk, unpS, bindT, refs, argS, putBack, permA, outsOf, atI, ixN, tru, setJ, z, n1]
    · generalize D.tup [.tup [fr a, fr b], .tup [fr c, fr d]] = PP
      generalize fr z.1 = z1 at *
      generalize fr z.2 = z2 at *
      show evE (evF T fu (n + 1)) (.tup (.cons (.var 1) (.cons (.var 2) .nil))) [some (.val PP), some (.val z1), some (.val z2)] = some (.tup [z1, z2], [some (.val PP), some (.val z1), some (.val z2)])
      simp [evE, evT, evL, evA, evO, evAr, evS, evD, putS, peek, mutS, setM, opB, opC, opF, opIx, opSl, walk, unpS, bindT, refs, argS, putBack, permA, outsOf, atI, ixN, tru, setJ, show 2 ≤ lim by decide])
  rw [ev1 (dd := d_flown_pieces) (by kernel_rfl)]
  unfold d_flown_pieces
  obtain ⟨CC, hCC⟩ : ∃ C, C = Ex.comp .seq (.cons (.var 0) .nil) (.many [1, 2]) (.tval (.cmp .ne (.var 2) (.glo "ZERO"))) (.tup (.cons (.var 1) (.cons (.var 2) .nil))) [1, 2] := ⟨_, rfl⟩
  have c3 : evE (evF T fu (n + 1)) CC [some (.val (.tup [.tup [fr a, fr b], .tup [fr c, fr d]])), none, none] = some (.lst (([(a, b), (c, d)].filter fun z => !decide (z.2 = 0)).map fun z => D.tup [fr z.1, fr z.2]), [some (.val (.tup [.tup [fr a, fr b], .tup [fr c, fr d]])), none, none]) := by
    rw [hCC, evE]
    rw [show evL (evF T fu (n + 1)) (.cons (.var 0) .nil) [some (.val (.tup [.tup [fr a, fr b], .tup [fr c, fr d]])), none, none] = some ([.tup [.tup [fr a, fr b], .tup [fr c, fr d]]], [some (.val (.tup [.tup [fr a, fr b], .tup [fr c, fr d]])), none, none]) by simp [evE, evT, evL, evA, evO, evAr, evS, evD, putS, peek, mutS, setM, opB, opC, opF, opIx, opSl, walk, unpS, bindT, refs, argS, putBack, permA, outsOf, atI, ixN, tru, setJ]]
    simp only [Option.bind_eq_bind, Option.bind_some, show walk .seq [.tup [.tup [fr a, fr b], .tup [fr c, fr d]]] = some ([(a, b), (c, d)].map fun z => D.tup [fr z.1, fr z.2]) from rfl]
    rw [if_pos (by rw [Bool.and_eq_true]; exact ⟨by rw [decide_eq_true_eq, List.length_map]; simp only [List.length_cons, List.length_nil]; decide +kernel, rfl⟩), key]
    rfl
  rw [← hCC]
  clear hCC key
  generalize (([(a, b), (c, d)].filter fun z => !decide (z.2 = 0)).map fun z => D.tup [fr z.1, fr z.2]) = XS at c3 ⊢
  generalize D.tup [.tup [fr a, fr b], .tup [fr c, fr d]] = PP at *
  simp [evE, evT, evL, evA, evO, evAr, evS, evD, putS, peek, mutS, setM, opB, opC, opF, opIx, opSl, walk, unpS, bindT, refs, argS, putBack, permA, outsOf, atI, ixN, tru, setJ, c3]
theorem s_flownp {fu n : Nat} {a b c d : Rat} : ∃ xs, evF T fu (n + 2) "flown_pieces" [.val (.tup [.tup [fr a, fr b], .tup [fr c, fr d]])] = some (.tup xs, []) := ⟨_, s_flownpX⟩
theorem s_taf {fu n : Nat} {x y m : Rat} (hx : Bq 300 x) (hy : Bq 300 y) (hk : Bq 10 m) (hm : 1 ≤ m) : ∃ xs, evF T fu (n + 4) "to_and_fro" [.val (fr x), .val (fr y), .val (fr m)] = some (.tup xs, []) := by
  have m0 : 0 < m := by grind
  have iv := s_inverse (fu := fu) (n := n + 2) m0
  have il : Bq 10 (1 / m) := hk.inv m0
  have z := s_zero (fu := fu) (n := n + 2)
  have o := s_one (fu := fu) (n := n + 2)
  have ne : opC .ne (fr m) (fr 1) = some (!decide (m = 1)) := by simp [evE, evT, evL, evA, evO, evAr, evS, evD, putS, peek, mutS, setM, opB, opC, opF, opIx, opSl, walk, unpS, bindT, refs, argS, putBack, permA, outsOf, atI, ixN, tru, setJ, dsh_fr, deq_fr]
  rw [ev1 (dd := d_to_and_fro) (by kernel_rfl)]
  unfold d_to_and_fro
  by_cases c : m = 1
  · rw [decide_eq_true c] at ne
    obtain ⟨xs, fp⟩ := s_flownp (fu := fu) (n := n + 1) (a := m) (b := x) (c := 1 / m) (d := 0)
    refine ⟨xs, ?_⟩
    generalize fr x = xx at *
    generalize fr y = yy at *
    generalize fr (1 / m) = ll at *
    generalize fr m = mm at *
    generalize fr 0 = zz at *
    generalize fr 1 = oo at *
    simp [evE, evT, evL, evA, evO, evAr, evS, evD, putS, peek, mutS, setM, opB, opF, opIx, opSl, walk, unpS, bindT, refs, argS, putBack, permA, outsOf, atI, ixN, tru, setJ, iv, z, o, ne, fp, show 2 ≤ lim by decide]
  · rw [decide_eq_false c] at ne
    have m1 := s_multiplied (fu := fu) (n := n + 1) (hk.le (by decide : 10 ≤ 2000)) (hk.le (by decide : 10 ≤ 2000))
    have m2 := s_multiplied (fu := fu) (n := n + 1) (il.le (by decide : 10 ≤ 2000)) (il.le (by decide : 10 ≤ 2000))
    have b1 := hk.mul hk
    have b2 := il.mul il
    have m3 := s_subtracted (fu := fu) (n := n + 1) (b1.le (by decide : 10 + 10 ≤ 2000)) (b2.le (by decide : 10 + 10 ≤ 2000))
    have b3 := b1.sub b2
    have pos : 0 < m * m - 1 / m * (1 / m) := by
      have l1 : 1 < m := by grind
      have l2 : 1 / m < 1 := (div_lt_iff' m0).2 (by grind)
      have l3 : 0 < 1 / m := invp m0
      have q1 := Rat.mul_lt_mul_of_pos_left l1 m0
      have q2 := Rat.mul_lt_mul_of_pos_left l2 l3
      grind
    have m4 := s_multiplied (fu := fu) (n := n + 1) (hk.le (by decide : 10 ≤ 2000)) (hx.le (by decide : 300 ≤ 2000))
    have m5 := s_multiplied (fu := fu) (n := n + 1) (il.le (by decide : 10 ≤ 2000)) (hy.le (by decide : 300 ≤ 2000))
    have b4 := hk.mul hx
    have b5 := il.mul hy
    have m6 := s_subtracted (fu := fu) (n := n + 1) (b4.le (by decide : 10 + 300 ≤ 2000)) (b5.le (by decide : 10 + 300 ≤ 2000))
    have b6 := b4.sub b5
    have m7 := s_divided (fu := fu) (n := n + 1) (b6.le (by decide : 10 + 300 + (10 + 300) + 1 ≤ 2000)) (b3.le (by decide : 10 + 10 + (10 + 10) + 1 ≤ 2000)) pos
    have m8 := s_multiplied (fu := fu) (n := n + 1) (hk.le (by decide : 10 ≤ 2000)) (hy.le (by decide : 300 ≤ 2000))
    have m9 := s_multiplied (fu := fu) (n := n + 1) (il.le (by decide : 10 ≤ 2000)) (hx.le (by decide : 300 ≤ 2000))
    have b8 := hk.mul hy
    have b9 := il.mul hx
    have m10 := s_subtracted (fu := fu) (n := n + 1) (b8.le (by decide : 10 + 300 ≤ 2000)) (b9.le (by decide : 10 + 300 ≤ 2000))
    have b10 := b8.sub b9
    have m11 := s_divided (fu := fu) (n := n + 1) (b10.le (by decide : 10 + 300 + (10 + 300) + 1 ≤ 2000)) (b3.le (by decide : 10 + 10 + (10 + 10) + 1 ≤ 2000)) pos
    obtain ⟨xs, fp⟩ := s_flownp (fu := fu) (n := n + 1) (a := m) (b := (m * x - 1 / m * y) / (m * m - 1 / m * (1 / m))) (c := 1 / m) (d := (m * y - 1 / m * x) / (m * m - 1 / m * (1 / m)))
    refine ⟨xs, ?_⟩
    generalize fr ((m * x - 1 / m * y) / (m * m - 1 / m * (1 / m))) = y1 at *
    generalize fr ((m * y - 1 / m * x) / (m * m - 1 / m * (1 / m))) = y2 at *
    generalize fr (m * x - 1 / m * y) = y3 at *
    generalize fr (m * y - 1 / m * x) = y4 at *
    generalize fr (m * m - 1 / m * (1 / m)) = y5 at *
    generalize fr (m * x) = y6 at *
    generalize fr (m * y) = y7 at *
    generalize fr (m * m) = y8 at *
    generalize fr (1 / m * (1 / m)) = y9 at *
    generalize fr (1 / m * x) = y10 at *
    generalize fr (1 / m * y) = y11 at *
    generalize fr x = xx at *
    generalize fr y = yy at *
    generalize fr (1 / m) = ll at *
    generalize fr m = mm at *
    generalize fr 0 = zz at *
    generalize fr 1 = oo at *
    simp [evE, evT, evL, evA, evO, evAr, evS, evD, putS, peek, mutS, setM, opB, opF, opIx, opSl, walk, unpS, bindT, refs, argS, putBack, permA, outsOf, atI, ixN, tru, setJ, iv, z, o, ne, m1, m2, m3, m4, m5, m6, m7, m8, m9, m10, m11, fp, show 2 ≤ lim by decide]
theorem lt0 {q : Rat} : opC .lt (.int q.num) (.int 0) = some (decide (q < 0)) := by
  show some (decide (q.num < 0)) = _
  congr 1
  refine decide_eq_decide.2 ?_
  have := Rat.num_nonneg (q := q)
  constructor
  · intro h
    by_cases z : 0 ≤ q
    · have := this.2 z; omega
    · grind
  · intro h
    by_cases z : 0 ≤ q.num
    · have := this.1 z; grind
    · omega
theorem s_reach {fu n : Nat} {a b c d m : Rat} (h : Be 140 a b) (g : Be 140 c d) (hk : Bq 10 m) (hm : 1 ≤ m) :
    ∃ t, evF T fu (n + 5) "reach" [.val (ev a b), .val (ev c d), .val (fr m)] = some (t, []) ∧ ((wOf (c - a) (d - b) m ≠ .plan ∧ t = dueD (wOf (c - a) (d - b) m)) ∨ (wOf (c - a) (d - b) m = .plan ∧ ∃ xs, t = .tup [.str "plan", .tup xs])) := by
  have c1 := s_ckev (fu := fu) (n := n) (u := a) (v := b)
  have c2 := s_ckev (fu := fu) (n := n) (u := c) (v := d)
  have c3 := s_ckmost (fu := fu) (n := n + 1) hk (by decide) hm
  have gr := s_growth (fu := fu) (n := n + 1) (h.le (by decide : 140 ≤ 2000)) (g.le (by decide : 140 ≤ 2000))
  have bx : Bq 300 (c - a) := (g.u.sub h.u).le (by decide)
  have byy : Bq 300 (d - b) := (g.v.sub h.v).le (by decide)
  have m1 := s_multiplied (fu := fu) (n := n + 2) (hk.le (by decide : 10 ≤ 2000)) (hk.le (by decide : 10 ≤ 2000))
  have b1 := hk.mul hk
  have m2 := s_multiplied (fu := fu) (n := n + 2) (b1.le (by decide : 10 + 10 ≤ 2000)) (byy.le (by decide : 300 ≤ 2000))
  have m3 := s_multiplied (fu := fu) (n := n + 2) (b1.le (by decide : 10 + 10 ≤ 2000)) (bx.le (by decide : 300 ≤ 2000))
  have l1 := s_less (fu := fu) (n := n + 3) ((b1.mul byy).le (by decide : 10 + 10 + 300 ≤ 3000)) (bx.le (by decide : 300 ≤ 3000))
  have l2 := s_less (fu := fu) (n := n + 3) ((b1.mul bx).le (by decide : 10 + 10 + 300 ≤ 3000)) (byy.le (by decide : 300 ≤ 3000))
  obtain ⟨xs, tf⟩ := s_taf (fu := fu) (n := n) bx byy hk hm
  have t1 := lt0 (q := c - a)
  have t2 := lt0 (q := d - b)
  have i1 := ix0 (q := c - a)
  have i2 := ix0 (q := d - b)
  rw [show ev (c - a) (d - b) = .tup [fr (c - a), fr (d - b)] from rfl] at gr
  unfold wOf
  generalize c - a = x at *
  generalize d - b = y at *
  refine ⟨if x < 0 ∨ y < 0 then dueD .behind else if m * m * y < x then dueD .bu else if m * m * x < y then dueD .bv else .tup [.str "plan", .tup xs], ?_, ?_⟩
  · rw [ev1 (dd := d_reach) (by kernel_rfl)]
    unfold d_reach
    by_cases h1 : x < 0
    · rw [decide_eq_true h1] at t1
      rw [if_pos (.inl h1)]
      generalize fr (m * m * y) = q1 at *
      generalize fr (m * m * x) = q2 at *
      generalize fr (m * m) = q3 at *
      generalize ev a b = q4 at *
      generalize ev c d = q5 at *
      generalize x.num = nx at *
      generalize fr x = xx at *
      generalize fr y = yy at *
      generalize fr m = mm at *
      simp [evE, evT, evL, evA, evO, evAr, evS, evD, putS, peek, mutS, setM, opB, opF, opSl, walk, unpS, bindT, refs, argS, putBack, permA, outsOf, atI, ixN, tru, setJ, c1, c2, c3, gr, m1, t1, i1, dueD, show 1 ≤ lim by decide, show 2 ≤ lim by decide]
    · rw [decide_eq_false h1] at t1
      by_cases h2 : y < 0
      · rw [decide_eq_true h2] at t2
        rw [if_pos (.inr h2)]
        generalize fr (m * m * y) = q1 at *
        generalize fr (m * m * x) = q2 at *
        generalize fr (m * m) = q3 at *
        generalize ev a b = q4 at *
        generalize ev c d = q5 at *
        generalize x.num = nx at *
        generalize y.num = ny at *
        generalize fr x = xx at *
        generalize fr y = yy at *
        generalize fr m = mm at *
        simp [evE, evT, evL, evA, evO, evAr, evS, evD, putS, peek, mutS, setM, opB, opF, opSl, walk, unpS, bindT, refs, argS, putBack, permA, outsOf, atI, ixN, tru, setJ, c1, c2, c3, gr, m1, t1, t2, i1, i2, dueD, show 1 ≤ lim by decide, show 2 ≤ lim by decide]
      · rw [decide_eq_false h2] at t2
        rw [if_neg (by grind)]
        by_cases h3 : m * m * y < x
        · rw [decide_eq_true h3] at l1
          rw [if_pos h3]
          generalize fr (m * m * y) = q1 at *
          generalize fr (m * m * x) = q2 at *
          generalize fr (m * m) = q3 at *
          generalize ev a b = q4 at *
          generalize ev c d = q5 at *
          generalize x.num = nx at *
          generalize y.num = ny at *
          generalize fr x = xx at *
          generalize fr y = yy at *
          generalize fr m = mm at *
          simp [evE, evT, evL, evA, evO, evAr, evS, evD, putS, peek, mutS, setM, opB, opF, opSl, walk, unpS, bindT, refs, argS, putBack, permA, outsOf, atI, ixN, tru, setJ, c1, c2, c3, gr, m1, m2, l1, t1, t2, i1, i2, dueD, show 1 ≤ lim by decide, show 2 ≤ lim by decide]
        · rw [decide_eq_false h3] at l1
          rw [if_neg h3]
          by_cases h4 : m * m * x < y
          · rw [decide_eq_true h4] at l2
            rw [if_pos h4]
            generalize fr (m * m * y) = q1 at *
            generalize fr (m * m * x) = q2 at *
            generalize fr (m * m) = q3 at *
            generalize ev a b = q4 at *
            generalize ev c d = q5 at *
            generalize x.num = nx at *
            generalize y.num = ny at *
            generalize fr x = xx at *
            generalize fr y = yy at *
            generalize fr m = mm at *
            simp [evE, evT, evL, evA, evO, evAr, evS, evD, putS, peek, mutS, setM, opB, opF, opSl, walk, unpS, bindT, refs, argS, putBack, permA, outsOf, atI, ixN, tru, setJ, c1, c2, c3, gr, m1, m2, m3, l1, l2, t1, t2, i1, i2, dueD, show 1 ≤ lim by decide, show 2 ≤ lim by decide]
          · rw [decide_eq_false h4] at l2
            rw [if_neg h4]
            generalize fr (m * m * y) = q1 at *
            generalize fr (m * m * x) = q2 at *
            generalize fr (m * m) = q3 at *
            generalize ev a b = q4 at *
            generalize ev c d = q5 at *
            generalize x.num = nx at *
            generalize y.num = ny at *
            generalize fr x = xx at *
            generalize fr y = yy at *
            generalize fr m = mm at *
            simp [evE, evT, evL, evA, evO, evAr, evS, evD, putS, peek, mutS, setM, opB, opF, opSl, walk, unpS, bindT, refs, argS, putBack, permA, outsOf, atI, ixN, tru, setJ, c1, c2, c3, gr, m1, m2, m3, l1, l2, t1, t2, i1, i2, tf, dueD, show 1 ≤ lim by decide, show 2 ≤ lim by decide]
  · by_cases h1 : x < 0 ∨ y < 0
    · rw [if_pos h1, if_pos h1]; exact .inl ⟨(by intro z; cases z), rfl⟩
    · rw [if_neg h1, if_neg h1]
      by_cases h3 : m * m * y < x
      · rw [if_pos h3, if_pos h3]; exact .inl ⟨(by intro z; cases z), rfl⟩
      · rw [if_neg h3, if_neg h3]
        by_cases h4 : m * m * x < y
        · rw [if_pos h4, if_pos h4]; exact .inl ⟨(by intro z; cases z), rfl⟩
        · rw [if_neg h4, if_neg h4]; exact .inr ⟨rfl, xs, rfl⟩
theorem s_word {fu n : Nat} {a b c d m : Rat} (h : Be 140 a b) (g : Be 140 c d) (hk : Bq 10 m) (hm : 1 ≤ m) (hf : 8001 ≤ fu) :
    evF T fu (n + 5) "_law_within_word" [.val (ev a b), .val (ev c d), .val (fr m)] = some (dueD (wOf (c - a) (d - b) m), []) := by
  have gr := s_more (fu := fu) (n := n) (h.le (by decide : 140 ≤ 1900)) (g.le (by decide : 140 ≤ 1900)) hf
  have bx : Bq 300 (c - a) := (g.u.sub h.u).le (by decide)
  have byy : Bq 300 (d - b) := (g.v.sub h.v).le (by decide)
  have m1 := s_ltimes (fu := fu) (n := n + 1) (hk.le (by decide : 10 ≤ 1900)) (hk.le (by decide : 10 ≤ 1900)) hf
  have b1 := hk.mul hk
  have m2 := s_ltimes (fu := fu) (n := n + 1) (b1.le (by decide : 10 + 10 ≤ 1900)) (byy.le (by decide : 300 ≤ 1900)) hf
  have m3 := s_ltimes (fu := fu) (n := n + 1) (b1.le (by decide : 10 + 10 ≤ 1900)) (bx.le (by decide : 300 ≤ 1900)) hf
  have l1 := s_lisless (fu := fu) (n := n + 3) ((b1.mul byy).le (by decide : 10 + 10 + 300 ≤ 3000)) (bx.le (by decide : 300 ≤ 3000))
  have l2 := s_lisless (fu := fu) (n := n + 3) ((b1.mul bx).le (by decide : 10 + 10 + 300 ≤ 3000)) (byy.le (by decide : 300 ≤ 3000))
  have t1 := lt0 (q := c - a)
  have t2 := lt0 (q := d - b)
  have i1 := ix0 (q := c - a)
  have i2 := ix0 (q := d - b)
  rw [show ev (c - a) (d - b) = .tup [fr (c - a), fr (d - b)] from rfl] at gr
  unfold wOf
  generalize c - a = x at *
  generalize d - b = y at *
  rw [ev1 (dd := d__law_within_word) (by kernel_rfl)]
  unfold d__law_within_word
  by_cases h1 : x < 0
  · rw [decide_eq_true h1] at t1
    rw [if_pos (.inl h1)]
    generalize ev a b = q4 at *
    generalize ev c d = q5 at *
    generalize x.num = nx at *
    generalize fr x = xx at *
    generalize fr y = yy at *
    generalize fr m = mm at *
    simp [evE, evT, evL, evA, evO, evAr, evS, evD, putS, peek, mutS, setM, opB, opF, opSl, walk, unpS, bindT, refs, argS, putBack, permA, outsOf, atI, ixN, tru, setJ, gr, t1, i1, dueD, show 1 ≤ lim by decide, show 2 ≤ lim by decide]
  · rw [decide_eq_false h1] at t1
    by_cases h2 : y < 0
    · rw [decide_eq_true h2] at t2
      rw [if_pos (.inr h2)]
      generalize ev a b = q4 at *
      generalize ev c d = q5 at *
      generalize x.num = nx at *
      generalize y.num = ny at *
      generalize fr x = xx at *
      generalize fr y = yy at *
      generalize fr m = mm at *
      simp [evE, evT, evL, evA, evO, evAr, evS, evD, putS, peek, mutS, setM, opB, opF, opSl, walk, unpS, bindT, refs, argS, putBack, permA, outsOf, atI, ixN, tru, setJ, gr, t1, t2, i1, i2, dueD, show 1 ≤ lim by decide, show 2 ≤ lim by decide]
    · rw [decide_eq_false h2] at t2
      rw [if_neg (by grind)]
      have fin : dueD (if m * m * y < x then Wd.bu else if m * m * x < y then .bv else .plan) = if decide (m * m * y < x) = true then D.tup [.str "beyond", .str "u"] else if decide (m * m * x < y) = true then D.tup [.str "beyond", .str "v"] else .tup [.str "plan"] := by
        by_cases h3 : m * m * y < x
        · simp [evE, evT, evL, evA, evO, evAr, evS, evD, putS, peek, mutS, setM, opB, opC, opF, opIx, opSl, walk, unpS, bindT, refs, argS, putBack, permA, outsOf, atI, ixN, tru, setJ, h3, dueD]
        · by_cases h4 : m * m * x < y
          · simp [evE, evT, evL, evA, evO, evAr, evS, evD, putS, peek, mutS, setM, opB, opC, opF, opIx, opSl, walk, unpS, bindT, refs, argS, putBack, permA, outsOf, atI, ixN, tru, setJ, h3, h4, dueD]
          · simp [evE, evT, evL, evA, evO, evAr, evS, evD, putS, peek, mutS, setM, opB, opC, opF, opIx, opSl, walk, unpS, bindT, refs, argS, putBack, permA, outsOf, atI, ixN, tru, setJ, h3, h4, dueD]
      rw [fin]
      generalize decide (m * m * y < x) = d1 at *
      generalize decide (m * m * x < y) = d2 at *
      generalize fr (m * m * y) = q1 at *
      generalize fr (m * m * x) = q2 at *
      generalize fr (m * m) = q3 at *
      generalize ev a b = q4 at *
      generalize ev c d = q5 at *
      generalize x.num = nx at *
      generalize y.num = ny at *
      generalize fr x = xx at *
      generalize fr y = yy at *
      generalize fr m = mm at *
      cases d1 <;> cases d2 <;> simp [evE, evT, evL, evA, evO, evAr, evS, evD, putS, peek, mutS, setM, opB, opF, opSl, walk, unpS, bindT, refs, argS, putBack, permA, outsOf, atI, ixN, tru, setJ, gr, m1, m2, m3, l1, l2, t1, t2, i1, i2, show 1 ≤ lim by decide, show 2 ≤ lim by decide]
theorem kts {x : PySem.Str} : kitB (tyOf (.str x)) "tuple" = some false := by show kitB "str" "tuple" = some false; decide +kernel
theorem kbs {x : PySem.Str} : kitB (tyOf (.str x)) "bool" = some false := by show kitB "str" "bool" = some false; decide +kernel
theorem kis {x : PySem.Str} : kitB (tyOf (.str x)) "int" = some false := by show kitB "str" "int" = some false; decide +kernel
theorem s_lis_str {fu n : Nat} {x : PySem.Str} : evF T fu (n + 1) "_law_is" [.val (.str x), .val (.str x)] = some (.bl true, []) := by
  have a := kts (x := x)
  have b := kbs (x := x)
  have c := kis (x := x)
  have k := ks (x := x)
  have e : opC .eq (.str x) (.str x) = some true := by
    simp [evE, evT, evL, evA, evO, evAr, evS, evD, putS, peek, mutS, setM, opB, opC, opF, opIx, opSl, walk, unpS, bindT, refs, argS, putBack, permA, outsOf, atI, ixN, tru, setJ, dsh_str, deq_str]
  rw [ev1 (dd := d__law_is) (by kernel_rfl)]
  unfold d__law_is
  simp [evE, evT, evL, evA, evO, evAr, evS, evD, putS, peek, mutS, setM, opB, opF, opIx, opSl, walk, unpS, bindT, refs, argS, putBack, permA, outsOf, atI, ixN, tru, setJ, a, b, c, e, k, show opC .is (.str x) .non = some false from rfl]
theorem s_lis_tup {fu n : Nat} {xs : List D} (hl : xs.length ≤ 1000) (h : ∀ x ∈ xs, evF T fu (n + 1) "_law_is" [.val x, .val x] = some (.bl true, [])) : evF T fu (n + 2) "_law_is" [.val (.tup xs), .val (.tup xs)] = some (.bl true, []) := by
  have key := compL_filter (el := fun e => evE (evF T fu (n + 1)) (.call "_law_is" [0, 1] (.cons (.tval (.var 3)) (.cons (.tval (.var 4)) .nil))) e) (cd := fun e => evT (evF T fu (n + 1)) .tyes e) (tg := .many [3, 4]) (own := [3, 4]) (env := [some (.val (.tup xs)), some (.val (.tup xs)), some (.val (.bl true)), none, none]) (f := fun x => D.tup [x, x]) (g := fun _ => D.bl true) (b := fun _ => true) (its := xs) (by
    intro x hm
    refine ⟨[some (.val (.tup xs)), some (.val (.tup xs)), some (.val (.bl true)), some (.val x), some (.val x)], rfl, rfl, ?_, rfl⟩
    have t := h x hm
    generalize D.tup xs = XX
    show evE (evF T fu (n + 1)) (.call "_law_is" [0, 1] (.cons (.tval (.var 3)) (.cons (.tval (.var 4)) .nil))) [some (.val XX), some (.val XX), some (.val (.bl true)), some (.val x), some (.val x)] = some (.bl true, [some (.val XX), some (.val XX), some (.val (.bl true)), some (.val x), some (.val x)])
    simp [evE, evT, evL, evA, evO, evAr, evS, evD, putS, peek, mutS, setM, opB, opC, opF, opIx, opSl, walk, unpS, bindT, refs, argS, putBack, permA, outsOf, atI, ixN, tru, setJ, t])
  rw [List.filter_eq_self.2 (fun _ _ => rfl)] at key
  have a := kt (xs := xs)
  have w1 : walk .zip [.tup xs, .tup xs] = some (xs.map fun x => D.tup [x, x]) := by
    show some ((xs.zip xs).map fun p => D.tup [p.1, p.2]) = _
    rw [zip_self, List.map_map]; rfl
  have al := all_true xs
  have ln : opC .eq (.int (xs.length : Int)) (.int (xs.length : Int)) = some true := by
    simp [evE, evT, evL, evA, evO, evAr, evS, evD, putS, peek, mutS, setM, opB, opC, opF, opIx, opSl, walk, unpS, bindT, refs, argS, putBack, permA, outsOf, atI, ixN, tru, setJ, dsh_int, deq_int]
  rw [ev1 (dd := d__law_is) (by kernel_rfl)]
  unfold d__law_is
  obtain ⟨CC, hCC⟩ : ∃ C, C = Ex.comp .zip (.cons (.var 0) (.cons (.var 1) .nil)) (.many [3, 4]) .tyes (.call "_law_is" [0, 1] (.cons (.tval (.var 3)) (.cons (.tval (.var 4)) .nil))) [3, 4] := ⟨_, rfl⟩
  have c3 : evE (evF T fu (n + 1)) CC [some (.val (.tup xs)), some (.val (.tup xs)), some (.val (.bl true)), none, none] = some (.lst (xs.map fun _ => D.bl true), [some (.val (.tup xs)), some (.val (.tup xs)), some (.val (.bl true)), none, none]) := by
    rw [hCC, evE]
    rw [show evL (evF T fu (n + 1)) (.cons (.var 0) (.cons (.var 1) .nil)) [some (.val (.tup xs)), some (.val (.tup xs)), some (.val (.bl true)), none, none] = some ([.tup xs, .tup xs], [some (.val (.tup xs)), some (.val (.tup xs)), some (.val (.bl true)), none, none]) by simp [evE, evT, evL, evA, evO, evAr, evS, evD, putS, peek, mutS, setM, opB, opC, opF, opIx, opSl, walk, unpS, bindT, refs, argS, putBack, permA, outsOf, atI, ixN, tru, setJ]]
    simp only [Option.bind_eq_bind, Option.bind_some, w1]
    rw [if_pos (by rw [Bool.and_eq_true]; exact ⟨by rw [List.length_map, decide_eq_true_eq]; unfold lim; omega, rfl⟩), key]
    rfl
  rw [← hCC]
  clear hCC key
  have lf : opF .len [.tup xs] = some (.int xs.length) := rfl
  have ti : opF (.isi "tuple") [.tup xs] = some (.bl true) := by simp [evE, evT, evL, evA, evO, evAr, evS, evD, putS, peek, mutS, setM, opB, opC, opF, opIx, opSl, walk, unpS, bindT, refs, argS, putBack, permA, outsOf, atI, ixN, tru, setJ, a]
  generalize (xs.map fun _ => D.bl true) = BB at c3 al
  simp [evE, evT, evL, evA, evO, evAr, evS, evD, putS, peek, mutS, setM, opB, opIx, opSl, walk, unpS, bindT, refs, argS, putBack, permA, outsOf, atI, ixN, tru, setJ, ti, c3, al, ln, lf]
/-! ### draws -/
theorem s_wpace {fu n c : Nat} {own p1 p2 : Int} {m : Rat} (h : Pot c own p1 p2) (hc : c < 1000000) (hk : Bq 3 m) (hm : 1 ≤ m) (hf : 8001 ≤ fu) :
    ∃ own' p2' q, Pot (c + 1) own' p1 p2' ∧ (Bq 8 q ∧ 0 < q) ∧ evF T fu (n + 4) "_law_within_pace" [pot own p1 p2, .val (fr m)] = some (fr q, [potO own' p1 p2']) := by
  have m0 : 0 < m := by grind
  have il : Bq 3 (1 / m) := hk.inv m0
  have i0 : 0 < 1 / m := invp m0
  have one : Bq 1 (1 : Rat) := ⟨by decide +kernel, by decide +kernel⟩
  have two : Bq 2 (2 : Rat) := ⟨by decide +kernel, by decide +kernel⟩
  have a1 := s_lover (fu := fu) (n := n) (one.le (by decide : 1 ≤ 1900)) (hk.le (by decide : 3 ≤ 1900)) m0 hf
  have a2 := s_lplus (fu := fu) (n := n) (hk.le (by decide : 3 ≤ 1900)) (one.le (by decide : 1 ≤ 1900)) hf
  have a3 := s_lplus (fu := fu) (n := n) (il.le (by decide : 3 ≤ 1900)) (one.le (by decide : 1 ≤ 1900)) hf
  have b2 : Bq 5 (m + 1) := hk.add one
  have b3 : Bq 5 (1 / m + 1) := il.add one
  have a4 := s_lover (fu := fu) (n := n) (b2.le (by decide : 5 ≤ 1900)) (two.le (by decide : 2 ≤ 1900)) (by decide) hf
  have a5 := s_lover (fu := fu) (n := n) (b3.le (by decide : 5 ≤ 1900)) (two.le (by decide : 2 ≤ 1900)) (by decide) hf
  obtain ⟨o, r, b, hp, hb, e1⟩ := s_of (fu := fu) (n := n + 1) (xs := [fr ((m + 1) / 2), fr ((1 / m + 1) / 2), fr m, fr (1 / m), fr 1]) h hc (by simp [evE, evT, evL, evA, evO, evAr, evS, evD, putS, peek, mutS, setM, opB, opC, opF, opIx, opSl, walk, unpS, bindT, refs, argS, putBack, permA, outsOf, atI, ixN, tru, setJ]) (by simp [evE, evT, evL, evA, evO, evAr, evS, evD, putS, peek, mutS, setM, opB, opC, opF, opIx, opSl, walk, unpS, bindT, refs, argS, putBack, permA, outsOf, atI, ixN, tru, setJ])
  have key : ∃ q, b = fr q ∧ Bq 8 q ∧ 0 < q := by
    simp [evE, evT, evL, evA, evO, evAr, evS, evD, putS, peek, mutS, setM, opB, opC, opF, opIx, opSl, walk, unpS, bindT, refs, argS, putBack, permA, outsOf, atI, ixN, tru, setJ] at hb
    rcases hb with rfl | rfl | rfl | rfl | rfl
    · exact ⟨_, rfl, (b2.div two (by decide)).le (by decide), divp (by grind) (by decide)⟩
    · exact ⟨_, rfl, (b3.div two (by decide)).le (by decide), divp (by grind) (by decide)⟩
    · exact ⟨_, rfl, hk.le (by decide), m0⟩
    · exact ⟨_, rfl, il.le (by decide), i0⟩
    · exact ⟨_, rfl, one.le (by decide), by decide⟩
  obtain ⟨q, rfl, hq⟩ := key
  refine ⟨o, r, q, hp, hq, ?_⟩
  have ft : fr 2 = .tup [.int 2, .int 1] := rfl
  have ad : opB .add (.lst [fr ((m + 1) / 2), fr ((1 / m + 1) / 2)]) (.lst [fr m, fr (1 / m), fr 1]) = some (.lst [fr ((m + 1) / 2), fr ((1 / m + 1) / 2), fr m, fr (1 / m), fr 1]) := by
    show (if [fr ((m + 1) / 2), fr ((1 / m + 1) / 2)].length + [fr m, fr (1 / m), fr 1].length ≤ lim then _ else none) = _
    rw [if_pos (by simp only [List.length_cons, List.length_nil]; decide +kernel)]; rfl
  rw [fr_one] at a1 a2 a3 ad e1
  rw [ft] at a4 a5
  rw [ev1 (dd := d__law_within_pace) (by kernel_rfl)]
  unfold d__law_within_pace
  generalize fr ((m + 1) / 2) = x1 at *
  generalize fr ((1 / m + 1) / 2) = x2 at *
  generalize fr (m + 1) = x3 at *
  generalize fr (1 / m + 1) = x4 at *
  generalize fr (1 / m) = x5 at *
  generalize fr m = x6 at *
  generalize fr q = x7 at *
  unfold pot potO at *
  simp [evE, evT, evL, evA, evO, evAr, evS, evD, putS, peek, mutS, setM, opC, opF, opIx, opSl, walk, unpS, bindT, refs, argS, putBack, permA, outsOf, atI, ixN, tru, setJ, a1, a2, a3, a4, a5, e1, ad, compL, wipeE, backE, show 2 ≤ lim by decide, show 3 ≤ lim by decide]
def bG (x m : Nat) : Sm := (.seq (.asg x (.call "_law_event_gone" [0, 1, 2] (.cons (.tval (.var x)) (.cons (.tval (.call "_law_within_pace" [0, 1] (.cons (.ref 0) (.cons (.tval (.var m)) .nil)))) (.cons (.tval (.call "_law_frac_time" [0] (.cons (.ref 0) .nil))) .nil))))) .nil)
/-- a step within the bound -/
theorem gone_step {fu n c k : Nat} {own p1 p2 : Int} {m a b : Rat} (h : Pot c own p1 p2) (hc : c + 5 < 1000000) (hk : Bq 3 m) (hm : 1 ≤ m) (he : Be k a b) (hkk : k ≤ 1800) (hf : 8001 ≤ fu) :
    ∃ own' p2' own2 p22 x y z w, Pot (c + 2) own' p1 p2' ∧ Be (k + 13) x y ∧ evF T fu (n + 4) "_law_within_pace" [pot own p1 p2, .val (fr m)] = some (z, [potO own2 p1 p22]) ∧ evF T fu (n + 4) "_law_frac_time" [pot own2 p1 p22] = some (w, [potO own' p1 p2']) ∧ evF T fu (n + 4) "_law_event_gone" [.val (ev a b), .val z, .val w] = some (ev x y, []) := by
  obtain ⟨o1, r1, q, hp1, ⟨hq, q0⟩, t1⟩ := s_wpace (fu := fu) (n := n) h (by omega) hk hm hf
  obtain ⟨o2, r2, w, hp2, ⟨hw, w0, _⟩, t2⟩ := s_ltime (fu := fu) (n := n + 1) hp1 (by omega)
  have t3 := s_gone (fu := fu) (n := n) he hq hw q0 (by omega) (by decide) hf
  refine ⟨o2, r2, o1, r1, _, _, _, _, hp2, ?_, t1, t2, t3⟩
  exact ⟨(he.u.add (hq.mul hw)).le (by omega), (he.v.add (hw.div hq q0)).le (by omega)⟩
theorem ends_loop {fu n : Nat} {p1 : Int} {m : Rat} (hk : Bq 3 m) (hm : 1 ≤ m) (hf : 8001 ≤ fu) (e1 e4 : D) : ∀ (its : List D) (c k : Nat) (own p2 : Int) (a b : Rat) (e3 : Option Sl), Pot c own p1 p2 → c + 2 * its.length + 10 < 1000000 → Be k a b → k + 13 * its.length ≤ 1800 → Fre e3 →
    ∃ own' p2' x y f3, Pot (c + 2 * its.length) own' p1 p2' ∧ Be (k + 13 * its.length) x y ∧ Fre f3 ∧ forL (.one 3) (fun e => evS (evF T fu (n + 4)) fu (bG 2 5) e) its [some (pot own p1 p2), some (.val e1), some (.val (ev a b)), e3, some (.val e4), some (.val (fr m))] = some (.nx, [some (pot own' p1 p2'), some (.val e1), some (.val (ev x y)), f3, some (.val e4), some (.val (fr m))])
  | [], c, k, own, p2, a, b, e3, h, _, he, _, h3 => ⟨own, p2, a, b, e3, h, he, h3, rfl⟩
  | d :: its, c, k, own, p2, a, b, e3, h, hc, he, hkk, h3 => by
    rw [List.length_cons] at hc hkk
    obtain ⟨o1, r1, o2, r2, x, y, z, w, hp1, hx, t1, t2, t3⟩ := gone_step (fu := fu) (n := n) h (by omega) hk hm he (by omega) hf
    obtain ⟨o3, r3, x2, y2, f3, hp3, hx3, g3, ih⟩ := ends_loop (fu := fu) (n := n) hk hm hf e1 e4 its (c + 2) (k + 13) o1 r1 x y (some (.val d)) hp1 (by omega) hx (by omega) (.inr ⟨_, rfl⟩)
    refine ⟨o3, r3, x2, y2, f3, by rw [List.length_cons]; exact hp3.le (by omega), by rw [List.length_cons]; exact hx3.le (by omega), g3, ?_⟩
    have b1 : bindT (.one 3) d [some (pot own p1 p2), some (.val e1), some (.val (ev a b)), e3, some (.val e4), some (.val (fr m))] = some [some (pot own p1 p2), some (.val e1), some (.val (ev a b)), some (.val d), some (.val e4), some (.val (fr m))] := by
      rcases h3 with rfl | ⟨d', rfl⟩ <;> rfl
    have step : evS (evF T fu (n + 4)) fu (bG 2 5) [some (pot own p1 p2), some (.val e1), some (.val (ev a b)), some (.val d), some (.val e4), some (.val (fr m))] = some (.nx, [some (pot o1 p1 r1), some (.val e1), some (.val (ev x y)), some (.val d), some (.val e4), some (.val (fr m))]) := by
      unfold bG
      generalize ev a b = q1 at *
      generalize ev x y = q2 at *
      generalize fr m = q3 at *
      unfold pot potO at *
      simp [evE, evT, evL, evA, evO, evAr, evS, evD, putS, peek, mutS, setM, opB, opC, opF, opIx, opSl, walk, unpS, bindT, refs, argS, putBack, permA, outsOf, atI, ixN, tru, setJ, t1, t2, t3]
    unfold forL
    simp only [b1, step, Option.bind_some, Option.bind_eq_bind]
    exact ih
theorem third_loop {fu n : Nat} {p1 : Int} {m : Rat} (hk : Bq 3 m) (hm : 1 ≤ m) (hf : 8001 ≤ fu) (e1 : D) : ∀ (its : List D) (c k : Nat) (own p2 : Int) (a b : Rat) (e3 : Option Sl), Pot c own p1 p2 → c + 2 * its.length + 10 < 1000000 → Be k a b → k + 13 * its.length ≤ 1800 → Fre e3 →
    ∃ own' p2' x y f3, Pot (c + 2 * its.length) own' p1 p2' ∧ Be (k + 13 * its.length) x y ∧ Fre f3 ∧ forL (.one 4) (fun e => evS (evF T fu (n + 4)) fu (bG 3 2) e) its [some (pot own p1 p2), some (.val e1), some (.val (fr m)), some (.val (ev a b)), e3] = some (.nx, [some (pot own' p1 p2'), some (.val e1), some (.val (fr m)), some (.val (ev x y)), f3])
  | [], c, k, own, p2, a, b, e3, h, _, he, _, h3 => ⟨own, p2, a, b, e3, h, he, h3, rfl⟩
  | d :: its, c, k, own, p2, a, b, e3, h, hc, he, hkk, h3 => by
    rw [List.length_cons] at hc hkk
    obtain ⟨o1, r1, o2, r2, x, y, z, w, hp1, hx, t1, t2, t3⟩ := gone_step (fu := fu) (n := n) h (by omega) hk hm he (by omega) hf
    obtain ⟨o3, r3, x2, y2, f3, hp3, hx3, g3, ih⟩ := third_loop (fu := fu) (n := n) hk hm hf e1 its (c + 2) (k + 13) o1 r1 x y (some (.val d)) hp1 (by omega) hx (by omega) (.inr ⟨_, rfl⟩)
    refine ⟨o3, r3, x2, y2, f3, by rw [List.length_cons]; exact hp3.le (by omega), by rw [List.length_cons]; exact hx3.le (by omega), g3, ?_⟩
    have b1 : bindT (.one 4) d [some (pot own p1 p2), some (.val e1), some (.val (fr m)), some (.val (ev a b)), e3] = some [some (pot own p1 p2), some (.val e1), some (.val (fr m)), some (.val (ev a b)), some (.val d)] := by
      rcases h3 with rfl | ⟨d', rfl⟩ <;> rfl
    have step : evS (evF T fu (n + 4)) fu (bG 3 2) [some (pot own p1 p2), some (.val e1), some (.val (fr m)), some (.val (ev a b)), some (.val d)] = some (.nx, [some (pot o1 p1 r1), some (.val e1), some (.val (fr m)), some (.val (ev x y)), some (.val d)]) := by
      unfold bG
      generalize ev a b = q1 at *
      generalize ev x y = q2 at *
      generalize fr m = q3 at *
      unfold pot potO at *
      simp [evE, evT, evL, evA, evO, evAr, evS, evD, putS, peek, mutS, setM, opB, opC, opF, opIx, opSl, walk, unpS, bindT, refs, argS, putBack, permA, outsOf, atI, ixN, tru, setJ, t1, t2, t3]
    unfold forL
    simp only [b1, step, Option.bind_some, Option.bind_eq_bind]
    exact ih
theorem rngw {k : Nat} (h : k ≤ 9) : walk .rng [.int (k : Int)] = some (ran k) := by
  have w19 : wi 19 (k : Int) = true := by
    have : k = 0 ∨ k = 1 ∨ k = 2 ∨ k = 3 ∨ k = 4 ∨ k = 5 ∨ k = 6 ∨ k = 7 ∨ k = 8 ∨ k = 9 := by omega
    rcases this with rfl | rfl | rfl | rfl | rfl | rfl | rfl | rfl | rfl | rfl <;> decide +kernel
  show (if wi 19 (k : Int) then some (ran (k : Int).toNat) else none) = _
  rw [w19, if_pos rfl, Int.toNat_natCast]
theorem ranl {k : Nat} : (ran k).length = k := by simp [evE, evT, evL, evA, evO, evAr, evS, evD, putS, peek, mutS, setM, opB, opC, opF, opIx, opSl, walk, unpS, bindT, refs, argS, putBack, permA, outsOf, atI, ixN, tru, setJ, ran]
theorem s_most {fu n c : Nat} {own p1 p2 : Int} (h : Pot c own p1 p2) (hc : c < 1000000) :
    ∃ own' p2' q, Pot (c + 1) own' p1 p2' ∧ (Bq 3 q ∧ 1 ≤ q) ∧ evF T fu (n + 2) "_law_of" [pot own p1 p2, .val (.lst [.tup [.int 2, .int 1], .tup [.int 3, .int 1], .tup [.int 3, .int 2], .tup [.int 1, .int 1], .tup [.int 5, .int 2]])] = some (fr q, [potO own' p1 p2']) := by
  obtain ⟨o, r, b, hp, hb, e1⟩ := s_of (fu := fu) (n := n) (xs := [.tup [.int 2, .int 1], .tup [.int 3, .int 1], .tup [.int 3, .int 2], .tup [.int 1, .int 1], .tup [.int 5, .int 2]]) h hc (by simp [evE, evT, evL, evA, evO, evAr, evS, evD, putS, peek, mutS, setM, opB, opC, opF, opIx, opSl, walk, unpS, bindT, refs, argS, putBack, permA, outsOf, atI, ixN, tru, setJ]) (by simp [evE, evT, evL, evA, evO, evAr, evS, evD, putS, peek, mutS, setM, opB, opC, opF, opIx, opSl, walk, unpS, bindT, refs, argS, putBack, permA, outsOf, atI, ixN, tru, setJ])
  have key : ∃ q, b = fr q ∧ Bq 3 q ∧ 1 ≤ q := by
    simp [evE, evT, evL, evA, evO, evAr, evS, evD, putS, peek, mutS, setM, opB, opC, opF, opIx, opSl, walk, unpS, bindT, refs, argS, putBack, permA, outsOf, atI, ixN, tru, setJ] at hb
    rcases hb with rfl | rfl | rfl | rfl | rfl
    · exact ⟨2, rfl, ⟨by decide, by decide⟩, by decide +kernel⟩
    · exact ⟨3, rfl, ⟨by decide, by decide⟩, by decide +kernel⟩
    · exact ⟨3 / 2, fr_mk (by decide +kernel) (by decide +kernel), ⟨by decide +kernel, by decide +kernel⟩, by decide +kernel⟩
    · exact ⟨1, rfl, ⟨by decide, by decide⟩, by decide +kernel⟩
    · exact ⟨5 / 2, fr_mk (by decide +kernel) (by decide +kernel), ⟨by decide +kernel, by decide +kernel⟩, by decide +kernel⟩
  obtain ⟨q, rfl, hq⟩ := key
  exact ⟨o, r, q, hp, hq, e1⟩
theorem s_wends {fu n c : Nat} {own p1 p2 : Int} (h : Pot c own p1 p2) (hc : c + 60 < 1000000) (hf : 8001 ≤ fu) :
    ∃ own' p2' a b x y m, Pot (c + 30) own' p1 p2' ∧ Be 11 a b ∧ Be 60 x y ∧ (Bq 3 m ∧ 1 ≤ m) ∧ evF T fu (n + 5) "_law_within_ends" [pot own p1 p2] = some (.tup [ev a b, ev x y, fr m], [potO own' p1 p2']) := by
  obtain ⟨o1, r1, a, b, hp1, ha, _, t1⟩ := s_ldrawn (fu := fu) (n := n) h (by omega) hf
  obtain ⟨o2, r2, m, hp2, ⟨hk, hm⟩, t2⟩ := s_most (fu := fu) (n := n + 2) hp1 (by omega)
  obtain ⟨o3, r3, w, hp3, w0, w1, t3⟩ := s_take (fu := fu) (n := n + 3) (u := 6) hp2 (by omega) (by omega) (by omega)
  have e0 : opC .eq (.int w) (.int 0) = some (decide (w = 0)) := by simp [evE, evT, evL, evA, evO, evAr, evS, evD, putS, peek, mutS, setM, opB, opC, opF, opIx, opSl, walk, unpS, bindT, refs, argS, putBack, permA, outsOf, atI, ixN, tru, setJ, dsh_int, deq_int]
  have e1 : opC .eq (.int w) (.int 1) = some (decide (w = 1)) := by simp [evE, evT, evL, evA, evO, evAr, evS, evD, putS, peek, mutS, setM, opB, opC, opF, opIx, opSl, walk, unpS, bindT, refs, argS, putBack, permA, outsOf, atI, ixN, tru, setJ, dsh_int, deq_int]
  have e2 : opC .eq (.int w) (.int 2) = some (decide (w = 2)) := by simp [evE, evT, evL, evA, evO, evAr, evS, evD, putS, peek, mutS, setM, opB, opC, opF, opIx, opSl, walk, unpS, bindT, refs, argS, putBack, permA, outsOf, atI, ixN, tru, setJ, dsh_int, deq_int]
  by_cases q0 : w = 0
  · rw [decide_eq_true q0] at e0
    obtain ⟨o4, r4, x, y, hp4, hx, _, t4⟩ := s_ldrawn (fu := fu) (n := n) hp3 (by omega) hf
    refine ⟨o4, r4, a, b, x, y, m, hp4.le (by omega), ha, hx.le (by decide), ⟨hk, hm⟩, ?_⟩
    rw [ev1 (dd := d__law_within_ends) (by kernel_rfl)]
    unfold d__law_within_ends
    generalize ev a b = z1 at *
    generalize ev x y = z2 at *
    generalize fr m = z3 at *
    unfold pot potO at *
    simp [evE, evT, evL, evA, evO, evAr, evS, evD, putS, peek, mutS, setM, opB, opF, opIx, opSl, walk, unpS, bindT, refs, argS, putBack, permA, outsOf, atI, ixN, tru, setJ, t1, t2, t3, t4, e0, show 2 ≤ lim by decide, show 3 ≤ lim by decide, show 5 ≤ lim by decide]
  · rw [decide_eq_false q0] at e0
    obtain ⟨o4, r4, d, hp4, d0, d1, t4⟩ := s_take (fu := fu) (n := n + 3) (u := 3) hp3 (by omega) (by omega) (by omega)
    obtain ⟨j, hj⟩ : ∃ j : Nat, 1 + d = j := ⟨(1 + d).toNat, by omega⟩
    have ad : opB .add (.int 1) (.int d) = some (.int (j : Int)) := by
      show some (D.int (1 + d)) = _
      rw [hj]
    have jl : j ≤ 3 := by omega
    obtain ⟨o5, r5, x, y, f3, hp5, hx, g3, lp⟩ := ends_loop (fu := fu) (n := n) hk hm hf (.int w) (ev a b) (ran j) (c + 4 + 1 + 1 + 1) 11 o4 r4 a b none hp4 (by rw [ranl]; omega) ha (by rw [ranl]; omega) (.inl rfl)
    rw [ranl] at hp5 hx
    have hx : Be 50 x y := hx.le (by omega)
    have wk2 : walk .rng [.int (j : Int)] = some (ran j) := rngw (by omega)
    have wl : (ran j).length ≤ lim := by rw [ranl]; unfold lim; omega
    obtain ⟨B, hB⟩ : ∃ B, B = bG 2 5 := ⟨_, rfl⟩
    rw [← hB] at lp
    by_cases q1 : w = 1
    · rw [decide_eq_true q1] at e1
      have e2' : opC .eq (.int w) (.int 2) = some false := by rw [e2, decide_eq_false (by omega)]
      obtain ⟨o6, r6, s, hp6, ⟨hs, _, _⟩, t6⟩ := s_ltime (fu := fu) (n := n + 1) hp5 (by omega)
      have t7 := s_lplus (fu := fu) (n := n + 1) (hx.u.le (by decide : 50 ≤ 1900)) (hs.le (by decide : 4 ≤ 1900)) hf
      refine ⟨o6, r6, a, b, x + s, y, m, hp6.le (by omega), ha, ⟨(hx.u.add hs).le (by decide), hx.v.le (by decide)⟩, ⟨hk, hm⟩, ?_⟩
      have i0 : opIx (ev x y) (.int 0) = some (fr x) := ixt0
      have i1 : opIx (ev x y) (.int 1) = some (fr y) := ixt1
      have en : ev (x + s) y = .tup [fr (x + s), fr y] := rfl
      rw [en]
      rw [ev1 (dd := d__law_within_ends) (by kernel_rfl)]
      unfold d__law_within_ends
      unfold bG at hB
      rw [← hB]
      clear hB e2
      generalize ran j = RJ at *
      generalize (j : Int) = jj at *
      generalize ev a b = z1 at *
      generalize ev x y = z2 at *
      generalize fr (x + s) = z6 at *
      generalize fr x = z4 at *
      generalize fr y = z5 at *
      generalize fr s = z7 at *
      generalize fr m = z3 at *
      rcases g3 with rfl | ⟨d', rfl⟩ <;> (unfold pot potO at *; simp [evE, evT, evL, evA, evO, evAr, evS, evD, putS, peek, mutS, setM, opF, opSl, unpS, bindT, refs, argS, putBack, permA, outsOf, atI, ixN, tru, setJ, t1, t2, t3, t4, t6, t7, e0, e1, e2', ad, wk2, wl, lp, i0, i1, show 2 ≤ lim by decide, show 3 ≤ lim by decide, show 5 ≤ lim by decide])
    · rw [decide_eq_false q1] at e1
      by_cases q2 : w = 2
      · rw [decide_eq_true q2] at e2
        obtain ⟨o6, r6, d2, hp6, d20, d21, t6⟩ := s_take (fu := fu) (n := n + 3) (u := 3) hp5 (by omega) (by omega) (by omega)
        have ed : opC .eq (.int d2) (.int 0) = some (decide (d2 = 0)) := by simp [evE, evT, evL, evA, evO, evAr, evS, evD, putS, peek, mutS, setM, opB, opC, opF, opIx, opSl, walk, unpS, bindT, refs, argS, putBack, permA, outsOf, atI, ixN, tru, setJ, dsh_int, deq_int]
        refine ⟨o6, r6, a, b, if decide (d2 = 0) = true then a else x, if decide (d2 = 0) = true then b else y, m, hp6.le (by omega), ha, ?_, ⟨hk, hm⟩, ?_⟩
        · cases decide (d2 = 0) <;> simp only [Bool.false_eq_true, if_false, if_true]
          · exact hx.le (by decide)
          · exact ha.le (by decide)
        have en : ev (if decide (d2 = 0) = true then a else x) (if decide (d2 = 0) = true then b else y) = if decide (d2 = 0) = true then ev a b else ev x y := by
          cases decide (d2 = 0) <;> rfl
        rw [en]
        rw [ev1 (dd := d__law_within_ends) (by kernel_rfl)]
        unfold d__law_within_ends
        unfold bG at hB
        rw [← hB]
        clear hB en
        generalize decide (d2 = 0) = bb at *
        generalize ran j = RJ at *
        generalize (j : Int) = jj at *
        generalize ev a b = z1 at *
        generalize ev x y = z2 at *
        generalize fr m = z3 at *
        cases bb <;> rcases g3 with rfl | ⟨d', rfl⟩ <;> (unfold pot potO at *; simp [evE, evT, evL, evA, evO, evAr, evS, evD, putS, peek, mutS, setM, opF, opSl, unpS, bindT, refs, argS, putBack, permA, outsOf, atI, ixN, tru, setJ, t1, t2, t3, t4, t6, e0, e1, e2, ed, ad, wk2, wl, lp, show 2 ≤ lim by decide, show 3 ≤ lim by decide, show 5 ≤ lim by decide])
      · rw [decide_eq_false q2] at e2
        refine ⟨o5, r5, a, b, x, y, m, hp5.le (by omega), ha, hx.le (by decide), ⟨hk, hm⟩, ?_⟩
        rw [ev1 (dd := d__law_within_ends) (by kernel_rfl)]
        unfold d__law_within_ends
        unfold bG at hB
        rw [← hB]
        clear hB
        generalize ran j = RJ at *
        generalize (j : Int) = jj at *
        generalize ev a b = z1 at *
        generalize ev x y = z2 at *
        generalize fr m = z3 at *
        rcases g3 with rfl | ⟨d', rfl⟩ <;> (unfold pot potO at *; simp [evE, evT, evL, evA, evO, evAr, evS, evD, putS, peek, mutS, setM, opF, opSl, unpS, bindT, refs, argS, putBack, permA, outsOf, atI, ixN, tru, setJ, t1, t2, t3, t4, e0, e1, e2, ad, wk2, wl, lp, show 2 ≤ lim by decide, show 3 ≤ lim by decide, show 5 ≤ lim by decide])
end L09

namespace L09
open PySem L2 Mn TL
/-! ### a flight of a wished own time -/
theorem sq_nonneg' (a : Rat) : 0 ≤ a * a := by
  by_cases h : 0 ≤ a
  · exact Rat.mul_nonneg h h
  · have : 0 ≤ (-a) * (-a) := Rat.mul_nonneg (by grind) (by grind)
    grind
theorem le_of_sq {a b : Rat} (hb : 0 ≤ b) (h : a * a ≤ b * b) : a ≤ b := by
  by_cases c : a ≤ b
  · exact c
  · have c : b < a := Rat.not_le.1 c
    have h1 : b * b ≤ b * a := Rat.mul_le_mul_of_nonneg_left (Rat.le_of_lt c) hb
    have h2 : b * a < a * a := by
      have := Rat.mul_lt_mul_of_pos_right c (show 0 < a by grind)
      grind
    grind
theorem lt_of_sq {a b : Rat} (hb : 0 ≤ b) (h : a * a < b * b) : a < b := by
  by_cases c : a < b
  · exact c
  · have c : b ≤ a := Rat.not_lt.1 c
    have h1 : b * b ≤ a * b := Rat.mul_le_mul_of_nonneg_right c hb
    have h2 : a * b ≤ a * a := Rat.mul_le_mul_of_nonneg_left c (by grind)
    grind
structure Wish (A B m T : Rat) : Prop where
  a0 : 0 ≤ A
  ab : A ≤ B
  m1 : 1 ≤ m
  t0 : 0 < T
  ls : m * m * A + B ≤ (m * m + 1) * T
  sq : T * T ≤ A * B
theorem Wish.mm {A B m T : Rat} (w : Wish A B m T) : 1 ≤ m * m := by
  have := Rat.mul_le_mul_of_nonneg_left w.m1 (show (0 : Rat) ≤ m by have := w.m1; grind)
  have := w.m1
  grind
theorem Wish.at_ {A B m T : Rat} (w : Wish A B m T) : A ≤ T := by
  have h1 := w.ls
  have h2 := w.ab
  have h3 := w.mm
  by_cases c : A ≤ T
  · exact c
  · have := Rat.mul_lt_mul_of_pos_left (show T < A by grind) (show (0 : Rat) < m * m + 1 by grind)
    grind
theorem Wish.tb {A B m T : Rat} (w : Wish A B m T) : T ≤ B := by
  have h1 := w.a0
  have h2 := w.ab
  refine le_of_sq (by grind) ?_
  have := Rat.mul_le_mul_of_nonneg_right h2 (show 0 ≤ B by grind)
  have := w.sq
  grind
theorem Wish.p0 {A B m T : Rat} (w : Wish A B m T) : 0 ≤ A + B - 2 * T := by
  have h1 := w.a0
  have h2 := w.ab
  have : 2 * T ≤ A + B := by
    refine le_of_sq (by grind) ?_
    have := sq_nonneg' (A - B)
    have := w.sq
    grind
  grind
theorem Wish.flat {A B m T : Rat} (w : Wish A B m T) (h : A + B - 2 * T = 0) : A = T ∧ B = T := by
  have h1 := w.sq
  have h2 := w.at_
  have h3 := w.tb
  have e : B = 2 * T - A := by grind
  have : (T - A) * (T - A) ≤ 0 := by rw [e] at h1; grind
  have h4 := sq_nonneg' (T - A)
  by_cases c : T = A
  · grind
  · have : 0 < (T - A) * (T - A) := Rat.mul_pos (by grind) (by grind)
    grind
theorem Wish.strict {A B m T : Rat} (w : Wish A B m T) (h : 0 < A + B - 2 * T) : A < T ∧ T < B := by
  have h1 := w.sq
  have h2 := w.at_
  have h3 := w.tb
  have h4 := w.a0
  have ab : A < B := by
    by_cases c : A < B
    · exact c
    · grind
  constructor
  · have h5 := w.ls
    have h6 := w.mm
    by_cases c : A < T
    · exact c
    · have e : A = T := by grind
      rw [e] at h5 ab
      grind
  · refine lt_of_sq (by grind) ?_
    have : A * B < B * B := Rat.mul_lt_mul_of_pos_right ab (by grind)
    grind
/-- what is flown -/
def firstW (u v m T : Rat) : Rat := if u / m + v * m - (T + T) = 0 then 0 else (u * v - T * T) / (u / m + v * m - (T + T))
def restW (u v m T : Rat) : Rat := T - firstW u v m T
def paceW (u v m T : Rat) : Rat := (u - m * firstW u v m T) / restW u v m T
structure Flown (u v m T f r k : Rat) : Prop where
  f0 : 0 ≤ f
  r0 : 0 < r
  lo : 1 / m ≤ k
  hi : k ≤ m
  k0 : 0 < k
  u_ : m * f + k * r = u
  v_ : f / m + r / k = v
  t_ : f + r = T
theorem flown_of {u v m T : Rat} (m1 : 1 ≤ m) (u0 : 0 ≤ u) (uv : u ≤ m * m * v) (ls : (u + v) / (m + 1 / m) ≤ T) (sq : T * T ≤ u * v) (t0 : 0 < T) : Flown u v m T (firstW u v m T) (restW u v m T) (paceW u v m T) ∧
    ((u / m + v * m - (T + T) = 0 ∧ firstW u v m T = 0 ∧ paceW u v m T = m) ∨ (0 < u / m + v * m - (T + T) ∧ v * m - T ≠ 0 ∧ 0 < v * m - T ∧ paceW u v m T = m * (T - u / m) / (v * m - T))) := by
  have m0 : 0 < m := by grind
  have mn : m ≠ 0 := by grind
  obtain ⟨A, hA⟩ : ∃ A, A = u / m := ⟨_, rfl⟩
  obtain ⟨B, hB⟩ : ∃ B, B = v * m := ⟨_, rfl⟩
  have eu : u = m * A := by rw [hA]; grind
  have ev : v = B / m := by rw [hB]; grind
  have im : 0 < 1 / m := divp (by decide) m0
  have den : 0 < m + 1 / m := by grind
  have w : Wish A B m T := by
    refine ⟨?_, ?_, m1, t0, ?_, ?_⟩
    · rw [hA]; exact div_ge u0 m0
    · have : m * A ≤ m * B := by
        have e1 : m * A = u := by rw [hA]; grind
        have e2 : m * B = m * m * v := by rw [hB]; grind
        rw [e1, e2]; exact uv
      by_cases c : A ≤ B
      · exact c
      · have := Rat.mul_lt_mul_of_pos_left (show B < A by grind) m0
        grind
    · have h1 : (u + v) ≤ T * (m + 1 / m) := by
        have := Rat.mul_le_mul_of_nonneg_right ls (Rat.le_of_lt den)
        have dn : m + 1 / m ≠ 0 := by grind
        have e : (u + v) / (m + 1 / m) * (m + 1 / m) = u + v := by
          generalize m + 1 / m = z at *
          grind
        rw [e] at this
        exact this
      have h2 := Rat.mul_le_mul_of_nonneg_left h1 (Rat.le_of_lt m0)
      have e1 : m * (u + v) = m * m * A + B := by rw [eu, ev]; grind
      have e2 : m * (T * (m + 1 / m)) = (m * m + 1) * T := by grind
      rw [e1, e2] at h2
      exact h2
    · have e : u * v = A * B := by rw [eu, ev]; grind
      rw [← e]; exact sq
  have pe : u / m + v * m - (T + T) = A + B - 2 * T := by rw [hA, hB]; grind
  have re : u * v - T * T = A * B - T * T := by rw [eu, ev]; grind
  have mm := w.mm
  unfold firstW restW paceW
  by_cases c : u / m + v * m - (T + T) = 0
  · have fz : firstW u v m T = 0 := by unfold firstW; rw [if_pos c]
    rw [pe] at c
    obtain ⟨hAT, hBT⟩ := w.flat c
    have kz : (u - m * 0) / (T - 0) = m := by rw [eu, hAT]; grind
    rw [← pe] at c
    refine ⟨?_, .inl ⟨c, by rw [if_pos c], ?_⟩⟩
    · rw [if_pos c]
      unfold restW
      rw [fz, kz]
      refine ⟨Rat.le_refl, by grind, ?_, Rat.le_refl, m0, ?_, ?_, by grind⟩
      · have h1 : 1 / m ≤ 1 := by
          by_cases q : 1 / m ≤ 1
          · exact q
          · have := Rat.mul_lt_mul_of_pos_left (show (1 : Rat) < 1 / m by grind) m0
            grind
        grind
      · rw [eu, hAT]; grind
      · rw [ev, hBT]; grind
    · unfold restW
      rw [fz, kz]
  · have cn := c
    rw [pe] at c
    have P : 0 < A + B - 2 * T := by have := w.p0; grind
    obtain ⟨s1, s2⟩ := w.strict P
    have fe : firstW u v m T = (A * B - T * T) / (A + B - 2 * T) := by unfold firstW; rw [if_neg cn, pe, re]
    have pn : A + B - 2 * T ≠ 0 := by grind
    obtain ⟨f, hf⟩ : ∃ f, f = (A * B - T * T) / (A + B - 2 * T) := ⟨_, rfl⟩
    have fP : f * (A + B - 2 * T) = A * B - T * T := by rw [hf]; grind
    have f0 : 0 ≤ f := by rw [hf]; exact div_ge (by have := w.sq; grind) P
    have rP : (T - f) * (A + B - 2 * T) = (T - A) * (B - T) := by grind
    have rpos : 0 < (T - A) * (B - T) := Rat.mul_pos (by grind) (by grind)
    have r0 : 0 < T - f := by
      by_cases q : 0 < T - f
      · exact q
      · have : (T - f) * (A + B - 2 * T) ≤ 0 * (A + B - 2 * T) := Rat.mul_le_mul_of_nonneg_right (by grind) (Rat.le_of_lt P)
        grind
    have rn : T - f ≠ 0 := by grind
    have bt : B - T ≠ 0 := by grind
    have ta : T - A ≠ 0 := by grind
    obtain ⟨k, hk⟩ : ∃ k, k = (u - m * f) / (T - f) := ⟨_, rfl⟩
    have kr : k * (T - f) = u - m * f := by rw [hk]; grind
    have aP : (A - f) * (A + B - 2 * T) = (T - A) * (T - A) := by grind
    have key : k * (B - T) = m * (T - A) := by
      have h1 : k * ((T - f) * (A + B - 2 * T)) = m * ((A - f) * (A + B - 2 * T)) := by
        have : u - m * f = m * (A - f) := by rw [eu]; grind
        rw [this] at kr
        grind
      rw [rP, aP] at h1
      have h2 : (T - A) * (k * (B - T)) = (T - A) * (m * (T - A)) := by grind
      grind
    have ke : k = m * (T - A) / (B - T) := by rw [← key]; grind
    have k0 : 0 < k := by rw [ke]; exact divp (Rat.mul_pos m0 (by grind)) (by grind)
    have kn : k ≠ 0 := by grind
    rw [← hf] at fe
    refine ⟨?_, .inr ⟨by rw [pe]; exact P, by rw [← hB]; exact bt, by rw [← hB]; grind, ?_⟩⟩
    · rw [if_neg cn, pe, re, ← hf]
      unfold restW
      rw [fe, ← hk]
      refine ⟨f0, r0, ?_, ?_, k0, by grind, ?_, by grind⟩
      · have h1 : (B - T) ≤ m * (m * (T - A)) := by have := w.ls; grind
        by_cases q : 1 / m ≤ k
        · exact q
        · have h2 := Rat.mul_lt_mul_of_pos_right (show k < 1 / m by grind) (show 0 < B - T by grind)
          rw [key] at h2
          have h3 := Rat.mul_lt_mul_of_pos_left h2 m0
          have h4 : m * (1 / m * (B - T)) = B - T := by grind
          grind
      · by_cases q : k ≤ m
        · exact q
        · have h2 := Rat.mul_lt_mul_of_pos_right (show m < k by grind) (show 0 < B - T by grind)
          rw [key] at h2
          have h3 := Rat.mul_le_mul_of_nonneg_left (show T - A ≤ B - T by grind) (Rat.le_of_lt m0)
          grind
      · have rk : (T - f) / k = (B - T) * (B - T) / ((A + B - 2 * T) * m) := by
          have h1 : (T - f) = (T - A) * (B - T) / (A + B - 2 * T) := by rw [← rP]; grind
          rw [h1, ke]
          generalize hP : A + B - 2 * T = P' at *
          generalize hX : T - A = X at *
          generalize hY : B - T = Y at *
          rw [Rat.div_def, Rat.div_def, Rat.div_def, Rat.div_def, Rat.inv_mul_rev, Rat.inv_mul_rev, Rat.inv_mul_rev, Rat.inv_inv]
          have x1 : X * X⁻¹ = 1 := Rat.mul_inv_cancel _ ta
          have : X * Y * P'⁻¹ * (Y * (X⁻¹ * m⁻¹)) = (X * X⁻¹) * (Y * Y * (m⁻¹ * P'⁻¹)) := by grind
          rw [this, x1]; grind
        rw [rk, hf, ev]
        generalize hP : A + B - 2 * T = P' at *
        have e1 : A * B - T * T + (B - T) * (B - T) = B * P' := by rw [← hP]; grind
        have e2 : (A * B - T * T) / P' / m + (B - T) * (B - T) / (P' * m) = (A * B - T * T + (B - T) * (B - T)) / (P' * m) := by
          rw [Rat.div_def, Rat.div_def, Rat.div_def, Rat.div_def, Rat.inv_mul_rev]; grind
        rw [e2, e1, Rat.div_def, Rat.div_def, Rat.inv_mul_rev]
        grind
    · unfold restW
      rw [fe, ← hk, ke, hA, hB]

/-! ### sizes -/
def leastW (u v m : Rat) : Rat := (u + v) / (m + 1 / m)
structure Ask (a b c d m : Rat) : Prop where
  he : Be 11 a b
  hg : Be 60 c d
  hk : Bq 3 m
  hm : 1 ≤ m
  hw : wOf (c - a) (d - b) m = .plan
variable {a b c d m : Rat}
theorem Ask.u (q : Ask a b c d m) : Bq 72 (c - a) := (q.hg.u.sub q.he.u).le (by decide)
theorem Ask.v (q : Ask a b c d m) : Bq 72 (d - b) := (q.hg.v.sub q.he.v).le (by decide)
theorem Ask.m0 (q : Ask a b c d m) : 0 < m := by have := q.hm; grind
theorem Ask.im (q : Ask a b c d m) : Bq 3 (1 / m) := q.hk.inv q.m0
theorem Ask.den (q : Ask a b c d m) : 0 < m + 1 / m := by have := q.m0; have := invp q.m0; grind
theorem Ask.least (q : Ask a b c d m) : Bq 152 (leastW (c - a) (d - b) m) := ((q.u.add q.v).div (q.hk.add q.im) q.den).le (by decide)
theorem Ask.u0 (q : Ask a b c d m) : 0 ≤ c - a := (w_plan.1 q.hw).1.1
theorem Ask.v0 (q : Ask a b c d m) : 0 ≤ d - b := (w_plan.1 q.hw).1.2
theorem Ask.uv (q : Ask a b c d m) : c - a ≤ m * m * (d - b) := (w_plan.1 q.hw).2.1
theorem Ask.l0 (q : Ask a b c d m) : 0 ≤ leastW (c - a) (d - b) m := div_ge (by have := q.u0; have := q.v0; grind) q.den
theorem Ask.sq (q : Ask a b c d m) : Bq 144 ((c - a) * (d - b)) := q.u.mul q.v
/-- what is flown, and its sizes -/
structure Fw (u v m T f r k : Rat) : Prop extends Flown u v m T f r k where
  bf : Bq 1338 f
  br : Bq 1599 r
  bk : Bq 700 k
  bmf : Bq 1341 (m * f)
  bfm : Bq 1341 (f / m)
  bkr : Bq 1416 (k * r)
  brk : Bq 1416 (r / k)
theorem Ask.fw (q : Ask a b c d m) {T : Rat} (hT : Bq 260 T) (t0 : 0 < T) (ls : leastW (c - a) (d - b) m ≤ T) (sq : T * T ≤ (c - a) * (d - b)) :
    Fw (c - a) (d - b) m T (firstW (c - a) (d - b) m T) (restW (c - a) (d - b) m T) (paceW (c - a) (d - b) m T) := by
  obtain ⟨w, h⟩ := flown_of q.hm q.u0 q.uv ls sq t0
  have bu := q.u
  have bv := q.v
  have m0 := q.m0
  have bf : Bq 1338 (firstW (c - a) (d - b) m T) := by
    rcases h with ⟨_, h, _⟩ | ⟨h, _, _, _⟩
    · rw [h]; exact ⟨by decide +kernel, by decide +kernel⟩
    · unfold firstW
      rw [if_neg (by grind)]
      exact (((bu.mul bv).sub (hT.mul hT)).div ((((bu.div q.hk m0).add (bv.mul q.hk))).sub (hT.add hT)) h).le (by decide)
  have bk : Bq 700 (paceW (c - a) (d - b) m T) := by
    rcases h with ⟨_, _, h⟩ | ⟨_, _, h1, h2⟩
    · rw [h]; exact q.hk.le (by decide)
    · rw [h2]; exact ((q.hk.mul (hT.sub (bu.div q.hk m0))).div ((bv.mul q.hk).sub hT) h1).le (by decide)
  have bmf : Bq 1341 (m * firstW (c - a) (d - b) m T) := (q.hk.mul bf).le (by decide)
  have bfm : Bq 1341 (firstW (c - a) (d - b) m T / m) := (bf.div q.hk m0).le (by decide)
  refine ⟨w, bf, (hT.sub bf).le (by decide), bk, bmf, bfm, ?_, ?_⟩
  · have e : paceW (c - a) (d - b) m T * restW (c - a) (d - b) m T = (c - a) - m * firstW (c - a) (d - b) m T := by have := w.u_; grind
    rw [e]; exact (bu.sub bmf).le (by decide)
  · have e : restW (c - a) (d - b) m T / paceW (c - a) (d - b) m T = (d - b) - firstW (c - a) (d - b) m T / m := by have := w.v_; grind
    rw [e]; exact (bv.sub bfm).le (by decide)
def PW (u v m T : Rat) : List (Rat × Rat) := if T = 0 then [] else [(m, firstW u v m T), (paceW u v m T, restW u v m T)].filter fun z => !decide (z.2 = 0)
def pwD (z : Rat × Rat) : D := .tup [fr z.1, fr z.2]
/-- the pieces: none, one, or two -/
theorem Ask.shape (q : Ask a b c d m) {T : Rat} (hT : Bq 260 T) (t0 : 0 ≤ T) (ls : leastW (c - a) (d - b) m ≤ T) (sq : T * T ≤ (c - a) * (d - b)) :
    (T = 0 ∧ c - a = 0 ∧ d - b = 0 ∧ PW (c - a) (d - b) m T = []) ∨ ∃ f r k, Fw (c - a) (d - b) m T f r k ∧ ((f = 0 ∧ PW (c - a) (d - b) m T = [(k, r)]) ∨ (0 < f ∧ PW (c - a) (d - b) m T = [(m, f), (k, r)])) := by
  by_cases z : T = 0
  · left
    have h0 := q.l0
    have hz : leastW (c - a) (d - b) m = 0 := by grind
    have e : (c - a) + (d - b) = leastW (c - a) (d - b) m * (m + 1 / m) := by
      unfold leastW
      have dn : m + 1 / m ≠ 0 := by have := q.den; grind
      generalize m + 1 / m = y at *
      grind
    rw [hz] at e
    have := q.u0
    have := q.v0
    exact ⟨z, by grind, by grind, by unfold PW; rw [if_pos z]⟩
  · right
    have w := q.fw hT (by grind) ls sq
    refine ⟨_, _, _, w, ?_⟩
    have rn : restW (c - a) (d - b) m T ≠ 0 := by have := w.r0; grind
    unfold PW
    rw [if_neg z]
    by_cases y : firstW (c - a) (d - b) m T = 0
    · left
      refine ⟨y, ?_⟩
      rw [List.filter_cons_of_neg (by simp [evE, evT, evL, evA, evO, evAr, evS, evD, putS, peek, mutS, setM, opB, opC, opF, opIx, opSl, walk, unpS, bindT, refs, argS, putBack, permA, outsOf, atI, ixN, tru, setJ, y]), List.filter_cons_of_pos (by simp [evE, evT, evL, evA, evO, evAr, evS, evD, putS, peek, mutS, setM, opB, opC, opF, opIx, opSl, walk, unpS, bindT, refs, argS, putBack, permA, outsOf, atI, ixN, tru, setJ, rn])]; rfl
    · right
      refine ⟨by have := w.f0; grind, ?_⟩
      rw [List.filter_cons_of_pos (by simp [evE, evT, evL, evA, evO, evAr, evS, evD, putS, peek, mutS, setM, opB, opC, opF, opIx, opSl, walk, unpS, bindT, refs, argS, putBack, permA, outsOf, atI, ixN, tru, setJ, y]), List.filter_cons_of_pos (by simp [evE, evT, evL, evA, evO, evAr, evS, evD, putS, peek, mutS, setM, opB, opC, opF, opIx, opSl, walk, unpS, bindT, refs, argS, putBack, permA, outsOf, atI, ixN, tru, setJ, rn])]; rfl
end L09

namespace L09
open PySem L2 Mn TL
variable {a b c d m : Rat}
/-! ### the program's own flight -/
theorem s_ckown {fu n : Nat} {τ : Rat} (h : 0 ≤ τ) : evF T fu (n + 4) "check_own_time" [.val (fr τ)] = some (.non, []) := by
  have i := s_istime (fu := fu) (n := n) h
  rw [ev1 (dd := d_check_own_time) (by kernel_rfl)]
  unfold d_check_own_time
  generalize fr τ = t at *
  simp [evE, evT, evL, evA, evO, evAr, evS, evD, putS, peek, mutS, setM, opB, opC, opF, opIx, opSl, walk, unpS, bindT, refs, argS, putBack, permA, outsOf, atI, ixN, tru, setJ, i]
theorem s_ckplan {fu n : Nat} (q : Ask a b c d m) : evF T fu (n + 6) "check_plan" [.val (ev a b), .val (ev c d), .val (fr m)] = some (.non, []) := by
  obtain ⟨t, m1, h⟩ := s_reach (fu := fu) (n := n) (q.he.le (by decide : 11 ≤ 140)) (q.hg.le (by decide : 60 ≤ 140)) (q.hk.le (by decide : 3 ≤ 10)) q.hm
  rcases h with ⟨np, _⟩ | ⟨_, xs, rfl⟩
  · exact absurd q.hw np
  have x0 : opIx (.tup [.str "plan", .tup xs]) (.int 0) = some (.str "plan") := ixt0
  have ne : opC .ne (.str "plan") (.str "plan") = some false := by decide +kernel
  rw [ev1 (dd := d_check_plan) (by kernel_rfl)]
  unfold d_check_plan
  generalize ev a b = z1 at *
  generalize ev c d = z2 at *
  generalize fr m = z3 at *
  generalize D.tup [.str "plan", .tup xs] = z4 at *
  simp [evE, evT, evL, evA, evO, evAr, evS, evD, putS, peek, mutS, setM, opB, opF, opSl, walk, unpS, bindT, refs, argS, putBack, permA, outsOf, atI, ixN, tru, setJ, m1, x0, ne]
theorem s_least' {fu n : Nat} (q : Ask a b c d m) : evF T fu (n + 7) "least_own" [.val (ev a b), .val (ev c d), .val (fr m)] = some (fr (leastW (c - a) (d - b) m), []) := by
  have c1 := s_ckplan (fu := fu) (n := n) q
  have gr := s_growth (fu := fu) (n := n + 3) (q.he.le (by decide : 11 ≤ 2000)) (q.hg.le (by decide : 60 ≤ 2000))
  have iv := s_inverse (fu := fu) (n := n + 5) q.m0
  have m1 := s_added (fu := fu) (n := n + 4) (q.u.le (by decide : 72 ≤ 2000)) (q.v.le (by decide : 72 ≤ 2000))
  have m2 := s_added (fu := fu) (n := n + 4) (q.hk.le (by decide : 3 ≤ 2000)) (q.im.le (by decide : 3 ≤ 2000))
  have m3 := s_divided (fu := fu) (n := n + 4) ((q.u.add q.v).le (by decide : 72 + 72 + 1 ≤ 2000)) ((q.hk.add q.im).le (by decide : 3 + 3 + 1 ≤ 2000)) q.den
  rw [show ev (c - a) (d - b) = .tup [fr (c - a), fr (d - b)] from rfl] at gr
  unfold leastW
  rw [ev1 (dd := d_least_own) (by kernel_rfl)]
  unfold d_least_own
  generalize fr ((c - a + (d - b)) / (m + 1 / m)) = y1 at *
  generalize fr (c - a + (d - b)) = y2 at *
  generalize fr (m + 1 / m) = y3 at *
  generalize fr (1 / m) = y4 at *
  generalize fr (c - a) = y5 at *
  generalize fr (d - b) = y6 at *
  generalize ev a b = z1 at *
  generalize ev c d = z2 at *
  generalize fr m = z3 at *
  simp [evE, evT, evL, evA, evO, evAr, evS, evD, putS, peek, mutS, setM, opB, opC, opF, opIx, opSl, walk, unpS, bindT, refs, argS, putBack, permA, outsOf, atI, ixN, tru, setJ, c1, gr, iv, m1, m2, m3]
theorem s_straight {fu n : Nat} (q : Ask a b c d m) {τ : Rat} (hT : Bq 260 τ) (t0 : 0 ≤ τ) (ls : leastW (c - a) (d - b) m ≤ τ) (sq : τ * τ ≤ (c - a) * (d - b)) :
    evF T fu (n + 3) "then_straight" [.val (fr (c - a)), .val (fr (d - b)), .val (fr m), .val (fr τ)] = some (.tup ((PW (c - a) (d - b) m τ).map pwD), []) := by
  have z := s_zero (fu := fu) (n := n + 1)
  have eqz : opC .eq (fr τ) (fr 0) = some (decide (τ = 0)) := by simp [evE, evT, evL, evA, evO, evAr, evS, evD, putS, peek, mutS, setM, opB, opC, opF, opIx, opSl, walk, unpS, bindT, refs, argS, putBack, permA, outsOf, atI, ixN, tru, setJ, dsh_fr, deq_fr]
  rw [ev1 (dd := d_then_straight) (by kernel_rfl)]
  unfold d_then_straight PW
  by_cases tz : τ = 0
  · rw [decide_eq_true tz] at eqz
    rw [if_pos tz]
    generalize fr τ = t at *
    generalize fr 0 = zz at *
    generalize fr (c - a) = y5 at *
    generalize fr (d - b) = y6 at *
    generalize fr m = z3 at *
    simp [evE, evT, evL, evA, evO, evAr, evS, evD, putS, peek, mutS, setM, opB, opF, opIx, opSl, walk, unpS, bindT, refs, argS, putBack, permA, outsOf, atI, ixN, tru, setJ, z, eqz]
  · rw [decide_eq_false tz] at eqz
    rw [if_neg tz]
    have w := q.fw hT (by grind) ls sq
    have bu := q.u
    have bv := q.v
    have m0 := q.m0
    have m1 := s_multiplied (fu := fu) (n := n) (bu.le (by decide : 72 ≤ 2000)) (bv.le (by decide : 72 ≤ 2000))
    have m2 := s_multiplied (fu := fu) (n := n) (hT.le (by decide : 260 ≤ 2000)) (hT.le (by decide : 260 ≤ 2000))
    have m3 := s_subtracted (fu := fu) (n := n) ((bu.mul bv).le (by decide : 72 + 72 ≤ 2000)) ((hT.mul hT).le (by decide : 260 + 260 ≤ 2000))
    have m4 := s_divided (fu := fu) (n := n) (bu.le (by decide : 72 ≤ 2000)) (q.hk.le (by decide : 3 ≤ 2000)) m0
    have m5 := s_multiplied (fu := fu) (n := n) (bv.le (by decide : 72 ≤ 2000)) (q.hk.le (by decide : 3 ≤ 2000))
    have m6 := s_added (fu := fu) (n := n) ((bu.div q.hk m0).le (by decide : 72 + 3 ≤ 2000)) ((bv.mul q.hk).le (by decide : 72 + 3 ≤ 2000))
    have m7 := s_added (fu := fu) (n := n) (hT.le (by decide : 260 ≤ 2000)) (hT.le (by decide : 260 ≤ 2000))
    have bp := (((bu.div q.hk m0).add (bv.mul q.hk))).sub (hT.add hT)
    have m8 := s_subtracted (fu := fu) (n := n) (((bu.div q.hk m0).add (bv.mul q.hk)).le (by decide : 72 + 3 + (72 + 3) + 1 ≤ 2000)) ((hT.add hT).le (by decide : 260 + 260 + 1 ≤ 2000))
    have eqp : opC .eq (fr ((c - a) / m + (d - b) * m - (τ + τ))) (fr 0) = some (decide ((c - a) / m + (d - b) * m - (τ + τ) = 0)) := by simp [evE, evT, evL, evA, evO, evAr, evS, evD, putS, peek, mutS, setM, opB, opC, opF, opIx, opSl, walk, unpS, bindT, refs, argS, putBack, permA, outsOf, atI, ixN, tru, setJ, dsh_fr, deq_fr]
    have m10 := s_subtracted (fu := fu) (n := n) (hT.le (by decide : 260 ≤ 2000)) (w.bf.le (by decide : 1338 ≤ 2000))
    have m11 := s_multiplied (fu := fu) (n := n) (q.hk.le (by decide : 3 ≤ 2000)) (w.bf.le (by decide : 1338 ≤ 2000))
    have m12 := s_subtracted (fu := fu) (n := n) (bu.le (by decide : 72 ≤ 2000)) (w.bmf.le (by decide : 1341 ≤ 2000))
    have m13 := s_divided (fu := fu) (n := n) ((bu.sub w.bmf).le (by decide : 72 + 1341 + 1 ≤ 2000)) (w.br.le (by decide : 1599 ≤ 2000)) w.r0
    have fp := s_flownpX (fu := fu) (n := n) (a := m) (b := firstW (c - a) (d - b) m τ) (c := paceW (c - a) (d - b) m τ) (d := restW (c - a) (d - b) m τ)
    rw [show (fun z : Rat × Rat => D.tup [fr z.1, fr z.2]) = pwD from rfl] at fp
    rw [show τ - firstW (c - a) (d - b) m τ = restW (c - a) (d - b) m τ from rfl] at m10
    rw [show (c - a - m * firstW (c - a) (d - b) m τ) / restW (c - a) (d - b) m τ = paceW (c - a) (d - b) m τ from rfl] at m13
    generalize hRES : List.map pwD _ = RES at fp ⊢
    clear hRES
    by_cases pz : (c - a) / m + (d - b) * m - (τ + τ) = 0
    · have fz : firstW (c - a) (d - b) m τ = 0 := by unfold firstW; rw [if_pos pz]
      rw [decide_eq_true pz] at eqp
      have ff : fr (firstW (c - a) (d - b) m τ) = fr 0 := by rw [fz]
      rw [ff] at m10 m11 fp
      generalize hfi : firstW (c - a) (d - b) m τ = fi at *
      generalize restW (c - a) (d - b) m τ = rr at *
      generalize paceW (c - a) (d - b) m τ = kk at *
      clear w hfi
      generalize fr ((c - a) / m + (d - b) * m - (τ + τ)) = x1 at *
      generalize fr ((c - a) / m + (d - b) * m) = x2 at *
      generalize fr ((c - a) * (d - b) - τ * τ) = x3 at *
      generalize fr ((c - a) * (d - b)) = x4 at *
      generalize fr (τ * τ) = x5 at *
      generalize fr ((c - a) / m) = x6 at *
      generalize fr ((d - b) * m) = x7 at *
      generalize fr (τ + τ) = x8 at *
      generalize fr (c - a - m * fi) = x9 at *
      generalize fr (m * fi) = x10 at *
      generalize fr (c - a) = y5 at *
      generalize fr (d - b) = y6 at *
      generalize fr τ = t at *
      generalize fr m = z3 at *
      generalize fr rr = z4 at *
      generalize fr kk = z5 at *
      generalize fr fi = z6 at *
      generalize fr 0 = zz at *
      simp [evE, evT, evL, evA, evO, evAr, evS, evD, putS, peek, mutS, setM, opB, opF, opIx, opSl, walk, unpS, bindT, refs, argS, putBack, permA, outsOf, atI, ixN, tru, setJ, z, eqz, m1, m2, m3, m4, m5, m6, m7, m8, eqp, m10, m11, m12, m13, fp, show 2 ≤ lim by decide]
    · have pp : 0 < (c - a) / m + (d - b) * m - (τ + τ) := by
        rcases (flown_of q.hm q.u0 q.uv ls sq (by grind)).2 with ⟨h, _⟩ | ⟨h, _⟩
        · exact absurd h pz
        · exact h
      have m9 := s_divided (fu := fu) (n := n) (((bu.mul bv).sub (hT.mul hT)).le (by decide : 72 + 72 + (260 + 260) + 1 ≤ 2000)) (bp.le (by decide : 72 + 3 + (72 + 3) + 1 + (260 + 260 + 1) + 1 ≤ 2000)) pp
      have fe : ((c - a) * (d - b) - τ * τ) / ((c - a) / m + (d - b) * m - (τ + τ)) = firstW (c - a) (d - b) m τ := by unfold firstW; rw [if_neg pz]
      rw [fe] at m9
      clear fe
      rw [decide_eq_false pz] at eqp
      generalize hfi : firstW (c - a) (d - b) m τ = fi at *
      generalize restW (c - a) (d - b) m τ = rr at *
      generalize paceW (c - a) (d - b) m τ = kk at *
      clear w hfi
      generalize fr ((c - a) / m + (d - b) * m - (τ + τ)) = x1 at *
      generalize fr ((c - a) / m + (d - b) * m) = x2 at *
      generalize fr ((c - a) * (d - b) - τ * τ) = x3 at *
      generalize fr ((c - a) * (d - b)) = x4 at *
      generalize fr (τ * τ) = x5 at *
      generalize fr ((c - a) / m) = x6 at *
      generalize fr ((d - b) * m) = x7 at *
      generalize fr (τ + τ) = x8 at *
      generalize fr (c - a - m * fi) = x9 at *
      generalize fr (m * fi) = x10 at *
      generalize fr (c - a) = y5 at *
      generalize fr (d - b) = y6 at *
      generalize fr τ = t at *
      generalize fr m = z3 at *
      generalize fr rr = z4 at *
      generalize fr kk = z5 at *
      generalize fr fi = z6 at *
      generalize fr 0 = zz at *
      simp [evE, evT, evL, evA, evO, evAr, evS, evD, putS, peek, mutS, setM, opB, opF, opIx, opSl, walk, unpS, bindT, refs, argS, putBack, permA, outsOf, atI, ixN, tru, setJ, z, eqz, m1, m2, m3, m4, m5, m6, m7, m8, m9, eqp, m10, m11, m12, m13, fp, show 2 ≤ lim by decide]
/-- what is told of a wished own time -/
def toldD (u v m τ : Rat) : D :=
  if τ < leastW u v m then .tup [.str "less", fr (leastW u v m)] else if u * v < τ * τ then .tup [.str "more", fr (u * v)] else .tup [.str "plan", .tup ((PW u v m τ).map pwD)]
theorem s_own {fu n : Nat} (q : Ask a b c d m) {τ : Rat} (hT : Bq 260 τ) (t0 : 0 ≤ τ) : evF T fu (n + 8) "own_flight" [.val (ev a b), .val (ev c d), .val (fr m), .val (fr τ)] = some (toldD (c - a) (d - b) m τ, []) := by
  have c1 := s_ckev (fu := fu) (n := n + 3) (u := a) (v := b)
  have c2 := s_ckev (fu := fu) (n := n + 3) (u := c) (v := d)
  have c3 := s_ckmost (fu := fu) (n := n + 4) q.hk (by decide) q.hm
  have c4 := s_ckown (fu := fu) (n := n + 3) t0
  have m1 := s_least' (fu := fu) (n := n) q
  have l1 := s_less (fu := fu) (n := n + 6) (hT.le (by decide : 260 ≤ 3000)) (q.least.le (by decide : 152 ≤ 3000))
  have gr := s_growth (fu := fu) (n := n + 4) (q.he.le (by decide : 11 ≤ 2000)) (q.hg.le (by decide : 60 ≤ 2000))
  rw [show ev (c - a) (d - b) = .tup [fr (c - a), fr (d - b)] from rfl] at gr
  have m2 := s_multiplied (fu := fu) (n := n + 5) (q.u.le (by decide : 72 ≤ 2000)) (q.v.le (by decide : 72 ≤ 2000))
  have m3 := s_multiplied (fu := fu) (n := n + 5) (hT.le (by decide : 260 ≤ 2000)) (hT.le (by decide : 260 ≤ 2000))
  have l2 := s_less (fu := fu) (n := n + 6) (q.sq.le (by decide : 144 ≤ 3000)) ((hT.mul hT).le (by decide : 260 + 260 ≤ 3000))
  rw [ev1 (dd := d_own_flight) (by kernel_rfl)]
  unfold d_own_flight toldD
  by_cases h1 : τ < leastW (c - a) (d - b) m
  · rw [decide_eq_true h1] at l1
    rw [if_pos h1]
    generalize fr (leastW (c - a) (d - b) m) = y1 at *
    generalize ev a b = z1 at *
    generalize ev c d = z2 at *
    generalize fr m = z3 at *
    generalize fr τ = t at *
    simp [evE, evT, evL, evA, evO, evAr, evS, evD, putS, peek, mutS, setM, opB, opC, opF, opIx, opSl, walk, unpS, bindT, refs, argS, putBack, permA, outsOf, atI, ixN, tru, setJ, c1, c2, c3, c4, m1, l1, show 2 ≤ lim by decide]
  · rw [decide_eq_false h1] at l1
    rw [if_neg h1]
    by_cases h2 : (c - a) * (d - b) < τ * τ
    · rw [decide_eq_true h2] at l2
      rw [if_pos h2]
      generalize fr (leastW (c - a) (d - b) m) = y1 at *
      generalize fr ((c - a) * (d - b)) = y2 at *
      generalize fr (τ * τ) = y3 at *
      generalize fr (c - a) = y4 at *
      generalize fr (d - b) = y5 at *
      generalize ev a b = z1 at *
      generalize ev c d = z2 at *
      generalize fr m = z3 at *
      generalize fr τ = t at *
      simp [evE, evT, evL, evA, evO, evAr, evS, evD, putS, peek, mutS, setM, opB, opC, opF, opIx, opSl, walk, unpS, bindT, refs, argS, putBack, permA, outsOf, atI, ixN, tru, setJ, c1, c2, c3, c4, m1, l1, gr, m2, m3, l2, show 2 ≤ lim by decide]
    · rw [decide_eq_false h2] at l2
      rw [if_neg h2]
      have st := s_straight (fu := fu) (n := n + 4) q hT t0 (by grind) (by grind)
      generalize List.map pwD _ = RES at *
      generalize fr (leastW (c - a) (d - b) m) = y1 at *
      generalize fr ((c - a) * (d - b)) = y2 at *
      generalize fr (τ * τ) = y3 at *
      generalize fr (c - a) = y4 at *
      generalize fr (d - b) = y5 at *
      generalize ev a b = z1 at *
      generalize ev c d = z2 at *
      generalize fr m = z3 at *
      generalize fr τ = t at *
      simp [evE, evT, evL, evA, evO, evAr, evS, evD, putS, peek, mutS, setM, opB, opC, opF, opIx, opSl, walk, unpS, bindT, refs, argS, putBack, permA, outsOf, atI, ixN, tru, setJ, c1, c2, c3, c4, m1, l1, gr, m2, m3, l2, st, show 2 ≤ lim by decide]
end L09

namespace L09
open PySem L2 Mn TL
variable {a b c d m : Rat}
/-! ### what shows it -/
def PlS : Nat → D → Prop
  | 0, d => (∃ i, d = .int i) ∨ ∃ x, d = .str x
  | k + 1, d => (∃ i, d = .int i) ∨ (∃ x, d = .str x) ∨ ∃ xs, d = .tup xs ∧ xs.length ≤ 1000 ∧ ∀ x ∈ xs, PlS k x
theorem PlS.int {k : Nat} {i : Int} : PlS k (.int i) := by cases k <;> exact .inl ⟨i, rfl⟩
theorem PlS.str {k : Nat} {x : PySem.Str} : PlS k (.str x) := match k with
  | 0 => .inr ⟨x, rfl⟩
  | _ + 1 => .inr (.inl ⟨x, rfl⟩)
theorem PlS.tup {k : Nat} {xs : List D} (hl : xs.length ≤ 1000) (h : ∀ x ∈ xs, PlS k x) : PlS (k + 1) (.tup xs) := .inr (.inr ⟨xs, rfl, hl, h⟩)
theorem pls_fr {k : Nat} {q : Rat} : PlS (k + 1) (fr q) := PlS.tup (by simp [evE, evT, evL, evA, evO, evAr, evS, evD, putS, peek, mutS, setM, opB, opC, opF, opIx, opSl, walk, unpS, bindT, refs, argS, putBack, permA, outsOf, atI, ixN, tru, setJ]) (by intro x hx; simp [evE, evT, evL, evA, evO, evAr, evS, evD, putS, peek, mutS, setM, opB, opC, opF, opIx, opSl, walk, unpS, bindT, refs, argS, putBack, permA, outsOf, atI, ixN, tru, setJ] at hx; rcases hx with rfl | rfl <;> exact PlS.int)
theorem pls_wf {k : Nat} {x : PySem.Str} {q : Rat} : PlS (k + 2) (.tup [.str x, fr q]) := PlS.tup (by simp [evE, evT, evL, evA, evO, evAr, evS, evD, putS, peek, mutS, setM, opB, opC, opF, opIx, opSl, walk, unpS, bindT, refs, argS, putBack, permA, outsOf, atI, ixN, tru, setJ]) (by intro y hy; simp [evE, evT, evL, evA, evO, evAr, evS, evD, putS, peek, mutS, setM, opB, opC, opF, opIx, opSl, walk, unpS, bindT, refs, argS, putBack, permA, outsOf, atI, ixN, tru, setJ] at hy; rcases hy with rfl | rfl; exact PlS.str; exact pls_fr)
theorem s_same {fu : Nat} : ∀ (k n : Nat) (x : D), PlS k x → evF T fu (n + k + 1) "is_same" [.val x, .val x] = some (.bl true, []) := by
  have eb : opC .eq (.bl false) (.bl false) = some true := by decide +kernel
  have int : ∀ (n : Nat) (i : Int), evF T fu (n + 1) "is_same" [.val (.int i), .val (.int i)] = some (.bl true, []) := by
    intro n i
    have k1 := kti (i := i)
    have k2 := kib (i := i)
    have t1 : opF (.isi "tuple") [.int i] = some (.bl false) := by simp [evE, evT, evL, evA, evO, evAr, evS, evD, putS, peek, mutS, setM, opB, opC, opF, opIx, opSl, walk, unpS, bindT, refs, argS, putBack, permA, outsOf, atI, ixN, tru, setJ, k1]
    have t2 : opF (.isi "bool") [.int i] = some (.bl false) := by simp [evE, evT, evL, evA, evO, evAr, evS, evD, putS, peek, mutS, setM, opB, opC, opF, opIx, opSl, walk, unpS, bindT, refs, argS, putBack, permA, outsOf, atI, ixN, tru, setJ, k2]
    have e : opC .eq (.int i) (.int i) = some true := by simp [evE, evT, evL, evA, evO, evAr, evS, evD, putS, peek, mutS, setM, opB, opC, opF, opIx, opSl, walk, unpS, bindT, refs, argS, putBack, permA, outsOf, atI, ixN, tru, setJ, dsh_int, deq_int]
    rw [ev1 (dd := d_is_same) (by kernel_rfl)]
    unfold d_is_same
    simp [evE, evT, evL, evA, evO, evAr, evS, evD, putS, peek, mutS, setM, opB, opIx, opSl, walk, unpS, bindT, refs, argS, putBack, permA, outsOf, atI, ixN, tru, setJ, t1, t2, e, eb]
  have str : ∀ (n : Nat) (y : PySem.Str), evF T fu (n + 1) "is_same" [.val (.str y), .val (.str y)] = some (.bl true, []) := by
    intro n y
    have k1 := kts (x := y)
    have k2 := kbs (x := y)
    have t1 : opF (.isi "tuple") [.str y] = some (.bl false) := by simp [evE, evT, evL, evA, evO, evAr, evS, evD, putS, peek, mutS, setM, opB, opC, opF, opIx, opSl, walk, unpS, bindT, refs, argS, putBack, permA, outsOf, atI, ixN, tru, setJ, k1]
    have t2 : opF (.isi "bool") [.str y] = some (.bl false) := by simp [evE, evT, evL, evA, evO, evAr, evS, evD, putS, peek, mutS, setM, opB, opC, opF, opIx, opSl, walk, unpS, bindT, refs, argS, putBack, permA, outsOf, atI, ixN, tru, setJ, k2]
    have e : opC .eq (.str y) (.str y) = some true := by simp [evE, evT, evL, evA, evO, evAr, evS, evD, putS, peek, mutS, setM, opB, opC, opF, opIx, opSl, walk, unpS, bindT, refs, argS, putBack, permA, outsOf, atI, ixN, tru, setJ, dsh_str, deq_str]
    rw [ev1 (dd := d_is_same) (by kernel_rfl)]
    unfold d_is_same
    simp [evE, evT, evL, evA, evO, evAr, evS, evD, putS, peek, mutS, setM, opB, opIx, opSl, walk, unpS, bindT, refs, argS, putBack, permA, outsOf, atI, ixN, tru, setJ, t1, t2, e, eb]
  intro k
  induction k with
  | zero =>
    intro n x h
    rcases h with ⟨i, rfl⟩ | ⟨y, rfl⟩
    · exact int n i
    · exact str n y
  | succ k ih =>
    intro n x h
    rcases h with ⟨i, rfl⟩ | ⟨y, rfl⟩ | ⟨xs, rfl, hl, hx⟩
    · exact int _ i
    · exact str _ y
    have key := compL_filter (el := fun e => evE (evF T fu (n + k + 1)) (.call "is_same" [0, 1] (.cons (.tval (.var 2)) (.cons (.tval (.var 3)) .nil))) e) (cd := fun e => evT (evF T fu (n + k + 1)) .tyes e) (tg := .many [2, 3]) (own := [2, 3]) (env := [some (.val (.tup xs)), some (.val (.tup xs)), none, none]) (f := fun x => D.tup [x, x]) (g := fun _ => D.bl true) (b := fun _ => true) (its := xs) (by
      intro x hm
      refine ⟨[some (.val (.tup xs)), some (.val (.tup xs)), some (.val x), some (.val x)], rfl, rfl, ?_, rfl⟩
      have t := ih n x (hx x hm)
      generalize D.tup xs = XX
      show evE (evF T fu (n + k + 1)) (.call "is_same" [0, 1] (.cons (.tval (.var 2)) (.cons (.tval (.var 3)) .nil))) [some (.val XX), some (.val XX), some (.val x), some (.val x)] = some (.bl true, [some (.val XX), some (.val XX), some (.val x), some (.val x)])
      simp [evE, evT, evL, evA, evO, evAr, evS, evD, putS, peek, mutS, setM, opB, opC, opF, opIx, opSl, walk, unpS, bindT, refs, argS, putBack, permA, outsOf, atI, ixN, tru, setJ, t])
    rw [List.filter_eq_self.2 (fun _ _ => rfl)] at key
    have k1 := kt (xs := xs)
    have w1 : walk .zip [.tup xs, .tup xs] = some (xs.map fun x => D.tup [x, x]) := by
      show some ((xs.zip xs).map fun p => D.tup [p.1, p.2]) = _
      rw [zip_self, List.map_map]; rfl
    have al := all_true xs
    have ln : opC .ne (.int (xs.length : Int)) (.int (xs.length : Int)) = some false := by simp [evE, evT, evL, evA, evO, evAr, evS, evD, putS, peek, mutS, setM, opB, opC, opF, opIx, opSl, walk, unpS, bindT, refs, argS, putBack, permA, outsOf, atI, ixN, tru, setJ, dsh_int, deq_int]
    show evF T fu (n + k + 1 + 1) "is_same" [.val (.tup xs), .val (.tup xs)] = _
    rw [ev1 (dd := d_is_same) (by kernel_rfl)]
    unfold d_is_same
    obtain ⟨CC, hCC⟩ : ∃ C, C = Ex.comp .zip (.cons (.var 0) (.cons (.var 1) .nil)) (.many [2, 3]) .tyes (.call "is_same" [0, 1] (.cons (.tval (.var 2)) (.cons (.tval (.var 3)) .nil))) [2, 3] := ⟨_, rfl⟩
    have c3 : evE (evF T fu (n + k + 1)) CC [some (.val (.tup xs)), some (.val (.tup xs)), none, none] = some (.lst (xs.map fun _ => D.bl true), [some (.val (.tup xs)), some (.val (.tup xs)), none, none]) := by
      rw [hCC, evE]
      rw [show evL (evF T fu (n + k + 1)) (.cons (.var 0) (.cons (.var 1) .nil)) [some (.val (.tup xs)), some (.val (.tup xs)), none, none] = some ([.tup xs, .tup xs], [some (.val (.tup xs)), some (.val (.tup xs)), none, none]) by simp [evE, evT, evL, evA, evO, evAr, evS, evD, putS, peek, mutS, setM, opB, opC, opF, opIx, opSl, walk, unpS, bindT, refs, argS, putBack, permA, outsOf, atI, ixN, tru, setJ]]
      simp only [Option.bind_eq_bind, Option.bind_some, w1]
      rw [if_pos (by rw [Bool.and_eq_true]; exact ⟨by rw [List.length_map, decide_eq_true_eq]; unfold lim; omega, rfl⟩), key]
      rfl
    rw [← hCC]
    clear hCC key
    have lf : opF .len [.tup xs] = some (.int xs.length) := rfl
    have ti : opF (.isi "tuple") [.tup xs] = some (.bl true) := by simp [evE, evT, evL, evA, evO, evAr, evS, evD, putS, peek, mutS, setM, opB, opC, opF, opIx, opSl, walk, unpS, bindT, refs, argS, putBack, permA, outsOf, atI, ixN, tru, setJ, k1]
    generalize (xs.map fun _ => D.bl true) = BB at c3 al
    simp [evE, evT, evL, evA, evO, evAr, evS, evD, putS, peek, mutS, setM, opB, opIx, opSl, walk, unpS, bindT, refs, argS, putBack, permA, outsOf, atI, ixN, tru, setJ, ti, c3, al, ln, lf]
/-- fit to be flown -/
structure Pc (m : Rat) (z : Rat × Rat) : Prop where
  k0 : 0 < z.1
  lo : 1 / m ≤ z.1
  hi : z.1 ≤ m
  t0 : 0 < z.2
  bk : Bq 700 z.1
  bt : Bq 1599 z.2
theorem s_within {fu n : Nat} {k : Rat} (m0 : 0 < m) (hm : Bq 3 m) (hk : Bq 700 k) (lo : 1 / m ≤ k) (hi : k ≤ m) : evF T fu (n + 3) "is_within" [.val (fr k), .val (fr m)] = some (.bl true, []) := by
  have iv := s_inverse (fu := fu) (n := n + 1) m0
  have l1 := s_less (fu := fu) (n := n + 1) (hk.le (by decide : 700 ≤ 3000)) ((hm.inv m0).le (by decide : 3 ≤ 3000))
  have l2 := s_less (fu := fu) (n := n + 1) (hm.le (by decide : 3 ≤ 3000)) (hk.le (by decide : 700 ≤ 3000))
  rw [decide_eq_false (by grind)] at l1 l2
  rw [ev1 (dd := d_is_within) (by kernel_rfl)]
  unfold d_is_within
  generalize fr (1 / m) = y at *
  generalize fr m = mm at *
  generalize fr k = kk at *
  simp [evE, evT, evL, evA, evO, evAr, evS, evD, putS, peek, mutS, setM, opB, opC, opF, opIx, opSl, walk, unpS, bindT, refs, argS, putBack, permA, outsOf, atI, ixN, tru, setJ, iv, l1, l2]
theorem s_piece {fu n : Nat} {z : Rat × Rat} (m0 : 0 < m) (hm : Bq 3 m) (h : Pc m z) : evF T fu (n + 4) "is_piece" [.val (pwD z), .val (fr m)] = some (.bl true, []) := by
  have a1 := s_above (fu := fu) (n := n) h.k0
  have a2 := s_within (fu := fu) (n := n) m0 hm h.bk h.lo h.hi
  have a3 := s_above (fu := fu) (n := n) h.t0
  have k1 := kt (xs := [fr z.1, fr z.2])
  have ti : opF (.isi "tuple") [pwD z] = some (.bl true) := by
    show opF (.isi "tuple") [.tup [fr z.1, fr z.2]] = _
    simp [evE, evT, evL, evA, evO, evAr, evS, evD, putS, peek, mutS, setM, opB, opC, opF, opIx, opSl, walk, unpS, bindT, refs, argS, putBack, permA, outsOf, atI, ixN, tru, setJ, k1]
  have lf : opF .len [pwD z] = some (.int 2) := rfl
  have ne : opC .ne (.int 2) (.int 2) = some false := by decide +kernel
  have x0 : opIx (pwD z) (.int 0) = some (fr z.1) := ixt0
  have x1 : opIx (pwD z) (.int 1) = some (fr z.2) := ixt1
  rw [ev1 (dd := d_is_piece) (by kernel_rfl)]
  unfold d_is_piece
  generalize pwD z = zz at *
  generalize fr z.1 = z1 at *
  generalize fr z.2 = z2 at *
  generalize fr m = mm at *
  simp [evE, evT, evL, evA, evO, evAr, evS, evD, putS, peek, mutS, setM, opB, opSl, walk, unpS, bindT, refs, argS, putBack, permA, outsOf, atI, ixN, tru, setJ, a1, a2, a3, ti, lf, ne, x0, x1]
theorem s_isplan {fu n : Nat} {ps : List (Rat × Rat)} (m0 : 0 < m) (hm : Bq 3 m) (h : ∀ z ∈ ps, Pc m z) (hl : ps.length ≤ 2) : evF T fu (n + 5) "is_plan" [.val (.tup [.str "plan", .tup (ps.map pwD)]), .val (fr m)] = some (.bl true, []) := by
  have key := compL_filter (el := fun e => evE (evF T fu (n + 4)) (.call "is_piece" [0, 1] (.cons (.tval (.var 3)) (.cons (.tval (.var 1)) .nil))) e) (cd := fun e => evT (evF T fu (n + 4)) .tyes e) (tg := .one 3) (own := [3]) (env := [some (.val (.tup [.str "plan", .tup (ps.map pwD)])), some (.val (fr m)), some (.val (.tup (ps.map pwD))), none]) (f := pwD) (g := fun _ => D.bl true) (b := fun _ => true) (its := ps) (by
    intro z hz
    have t := s_piece (fu := fu) (n := n) m0 hm (h z hz)
    refine ⟨[some (.val (.tup [.str "plan", .tup (ps.map pwD)])), some (.val (fr m)), some (.val (.tup (ps.map pwD))), some (.val (pwD z))], rfl, rfl, ?_, rfl⟩
    generalize D.tup [.str "plan", .tup (ps.map pwD)] = X1
    generalize D.tup (ps.map pwD) = X2
    generalize fr m = mm at *
    generalize pwD z = zz at *
    show evE (evF T fu (n + 4)) (.call "is_piece" [0, 1] (.cons (.tval (.var 3)) (.cons (.tval (.var 1)) .nil))) [some (.val X1), some (.val mm), some (.val X2), some (.val zz)] = some (.bl true, [some (.val X1), some (.val mm), some (.val X2), some (.val zz)])
    simp [evE, evT, evL, evA, evO, evAr, evS, evD, putS, peek, mutS, setM, opB, opC, opF, opIx, opSl, walk, unpS, bindT, refs, argS, putBack, permA, outsOf, atI, ixN, tru, setJ, t])
  rw [List.filter_eq_self.2 (fun _ _ => rfl)] at key
  have k1 := kt (xs := [D.str "plan", .tup (ps.map pwD)])
  have k2 := kt (xs := ps.map pwD)
  have t1 : opF (.isi "tuple") [.tup [.str "plan", .tup (ps.map pwD)]] = some (.bl true) := by simp [evE, evT, evL, evA, evO, evAr, evS, evD, putS, peek, mutS, setM, opB, opC, opF, opIx, opSl, walk, unpS, bindT, refs, argS, putBack, permA, outsOf, atI, ixN, tru, setJ, k1]
  have t2 : opF (.isi "tuple") [.tup (ps.map pwD)] = some (.bl true) := by simp [evE, evT, evL, evA, evO, evAr, evS, evD, putS, peek, mutS, setM, opB, opC, opF, opIx, opSl, walk, unpS, bindT, refs, argS, putBack, permA, outsOf, atI, ixN, tru, setJ, k2]
  have lf : opF .len [.tup [.str "plan", .tup (ps.map pwD)]] = some (.int 2) := rfl
  have lf2 : opF .len [.tup (ps.map pwD)] = some (.int (ps.length : Int)) := by
    show some (D.int ((ps.map pwD).length : Int)) = _
    rw [List.length_map]
  have ne : opC .ne (.int 2) (.int 2) = some false := by decide +kernel
  have ne2 : opC .ne (.str "plan") (.str "plan") = some false := by decide +kernel
  have gt : opC .gt (.int (ps.length : Int)) (.int 2) = some false := by
    show some (decide ((2 : Int) < (ps.length : Int))) = _
    rw [decide_eq_false (by omega)]
  have x0 : opIx (.tup [.str "plan", .tup (ps.map pwD)]) (.int 0) = some (.str "plan") := ixt0
  have x1 : opIx (.tup [.str "plan", .tup (ps.map pwD)]) (.int 1) = some (.tup (ps.map pwD)) := ixt1
  have al := all_true ps
  rw [ev1 (dd := d_is_plan) (by kernel_rfl)]
  unfold d_is_plan
  obtain ⟨CC, hCC⟩ : ∃ C, C = Ex.comp .seq (.cons (.var 2) .nil) (.one 3) .tyes (.call "is_piece" [0, 1] (.cons (.tval (.var 3)) (.cons (.tval (.var 1)) .nil))) [3] := ⟨_, rfl⟩
  have c3 : evE (evF T fu (n + 4)) CC [some (.val (.tup [.str "plan", .tup (ps.map pwD)])), some (.val (fr m)), some (.val (.tup (ps.map pwD))), none] = some (.lst (ps.map fun _ => D.bl true), [some (.val (.tup [.str "plan", .tup (ps.map pwD)])), some (.val (fr m)), some (.val (.tup (ps.map pwD))), none]) := by
    rw [hCC, evE]
    rw [show evL (evF T fu (n + 4)) (.cons (.var 2) .nil) [some (.val (.tup [.str "plan", .tup (ps.map pwD)])), some (.val (fr m)), some (.val (.tup (ps.map pwD))), none] = some ([.tup (ps.map pwD)], [some (.val (.tup [.str "plan", .tup (ps.map pwD)])), some (.val (fr m)), some (.val (.tup (ps.map pwD))), none]) by simp [evE, evT, evL, evA, evO, evAr, evS, evD, putS, peek, mutS, setM, opB, opC, opF, opIx, opSl, walk, unpS, bindT, refs, argS, putBack, permA, outsOf, atI, ixN, tru, setJ]]
    simp only [Option.bind_eq_bind, Option.bind_some, show walk .seq [.tup (ps.map pwD)] = some (ps.map pwD) from rfl]
    rw [if_pos (by rw [Bool.and_eq_true]; exact ⟨by rw [List.length_map, decide_eq_true_eq]; unfold lim; omega, rfl⟩), key]
    rfl
  rw [← hCC]
  clear hCC key
  generalize (ps.map fun _ => D.bl true) = BB at *
  generalize D.tup [.str "plan", .tup (ps.map pwD)] = X1 at *
  generalize D.tup (ps.map pwD) = X2 at *
  generalize fr m = mm at *
  generalize (ps.length : Int) = pl at *
  simp [evE, evT, evL, evA, evO, evAr, evS, evD, putS, peek, mutS, setM, opB, opSl, walk, unpS, bindT, refs, argS, putBack, permA, outsOf, atI, ixN, tru, setJ, t1, t2, lf, lf2, ne, ne2, gt, x0, x1, c3, al]
theorem s_flown2 {fu n : Nat} {u v p w : Rat} (h : Be 1500 u v) (hp : Bq 2000 p) (hw : Bq 2000 w) (p0 : 0 < p) (b1 : Bq 2000 (p * w)) (b2 : Bq 2000 (w / p)) : evF T fu (n + 3) "flown" [.val (ev u v), .val (fr p), .val (fr w)] = some (ev (u + p * w) (v + w / p), []) := by
  have m1 := s_multiplied (fu := fu) (n := n) hp hw
  have m2 := s_divided (fu := fu) (n := n) hw hp p0
  have a1 := s_added (fu := fu) (n := n) (h.u.le (by decide : 1500 ≤ 2000)) b1
  have a2 := s_added (fu := fu) (n := n) (h.v.le (by decide : 1500 ≤ 2000)) b2
  rw [ev1 (dd := d_flown) (by kernel_rfl)]
  unfold d_flown ev
  generalize fr (p * w) = x1 at m1 a1
  generalize fr (w / p) = x2 at m2 a2
  generalize fr (u + p * w) = y1 at a1 ⊢
  generalize fr (v + w / p) = y2 at a2 ⊢
  generalize fr p = pp at m1 m2 ⊢
  generalize fr w = ww at m1 m2 ⊢
  generalize fr u = uu at a1 ⊢
  generalize fr v = vv at a2 ⊢
  simp [evE, evT, evL, evA, evO, evAr, evS, evD, putS, peek, mutS, setM, opB, opC, opF, opSl, walk, unpS, bindT, refs, argS, putBack, permA, outsOf, atI, ixN, tru, setJ, ixt0, ixt1, m1, m2, a1, a2, show 2 ≤ lim by decide]
/-- the shapes of what is flown -/
inductive Shp (a b c d m τ : Rat) : List (Rat × Rat) → Prop
  | zero (e : τ = 0) (h1 : c - a = 0) (h2 : d - b = 0) : Shp a b c d m τ []
  | one {r k : Rat} (w : Fw (c - a) (d - b) m τ 0 r k) : Shp a b c d m τ [(k, r)]
  | two {f r k : Rat} (f0 : 0 < f) (w : Fw (c - a) (d - b) m τ f r k) : Shp a b c d m τ [(m, f), (k, r)]
theorem Ask.shp (q : Ask a b c d m) {τ : Rat} (hT : Bq 260 τ) (t0 : 0 ≤ τ) (ls : leastW (c - a) (d - b) m ≤ τ) (sq : τ * τ ≤ (c - a) * (d - b)) : Shp a b c d m τ (PW (c - a) (d - b) m τ) := by
  rcases q.shape hT t0 ls sq with ⟨h1, h2, h3, e⟩ | ⟨f, r, k, w, h⟩
  · rw [e]; exact .zero h1 h2 h3
  · rcases h with ⟨rfl, e⟩ | ⟨f0, e⟩
    · rw [e]; exact .one w
    · rw [e]; exact .two f0 w
theorem im_le {m : Rat} (hm : 1 ≤ m) : 1 / m ≤ m := by
  have m0 : 0 < m := by grind
  by_cases q : 1 / m ≤ m
  · exact q
  · have h1 := Rat.mul_lt_mul_of_pos_left (show m < 1 / m by grind) m0
    have h2 : m * (1 / m) = 1 := by have : m ≠ 0 := by grind
                                    grind
    have h3 := Rat.mul_le_mul_of_nonneg_left hm (Rat.le_of_lt m0)
    grind
theorem Shp.pc {τ : Rat} {ps : List (Rat × Rat)} (q : Ask a b c d m) (s : Shp a b c d m τ ps) : (∀ z ∈ ps, Pc m z) ∧ ps.length ≤ 2 := by
  have m0 := q.m0
  cases s with
  | zero => exact ⟨fun _ h => (by cases h), by simp [evE, evT, evL, evA, evO, evAr, evS, evD, putS, peek, mutS, setM, opB, opC, opF, opIx, opSl, walk, unpS, bindT, refs, argS, putBack, permA, outsOf, atI, ixN, tru, setJ]⟩
  | one w =>
    refine ⟨fun z h => ?_, by simp [evE, evT, evL, evA, evO, evAr, evS, evD, putS, peek, mutS, setM, opB, opC, opF, opIx, opSl, walk, unpS, bindT, refs, argS, putBack, permA, outsOf, atI, ixN, tru, setJ]⟩
    rw [List.mem_singleton.1 h]
    exact ⟨w.k0, w.lo, w.hi, w.r0, w.bk, w.br⟩
  | two f0 w =>
    refine ⟨fun z h => ?_, by simp [evE, evT, evL, evA, evO, evAr, evS, evD, putS, peek, mutS, setM, opB, opC, opF, opIx, opSl, walk, unpS, bindT, refs, argS, putBack, permA, outsOf, atI, ixN, tru, setJ]⟩
    simp [evE, evT, evL, evA, evO, evAr, evS, evD, putS, peek, mutS, setM, opB, opC, opF, opIx, opSl, walk, unpS, bindT, refs, argS, putBack, permA, outsOf, atI, ixN, tru, setJ] at h
    rcases h with rfl | rfl
    · exact ⟨m0, im_le q.hm, Rat.le_refl, f0, q.hk.le (by decide), w.bf.le (by decide)⟩
    · exact ⟨w.k0, w.lo, w.hi, w.r0, w.bk, w.br⟩
def bF : Sm := (.seq (.asg 3 (.call "flown" [0, 1, 2] (.cons (.tval (.var 3)) (.cons (.tval (.var 4)) (.cons (.tval (.var 5)) .nil))))) .nil)
theorem s_leads {fu n : Nat} {τ : Rat} {ps : List (Rat × Rat)} (q : Ask a b c d m) (s : Shp a b c d m τ ps) : evF T fu (n + 4) "leads" [.val (ev a b), .val (ev c d), .val (.tup (ps.map pwD))] = some (.bl true, []) := by
  have eqs : opC .eq (ev c d) (ev c d) = some true := by simp [evE, evT, evL, evA, evO, evAr, evS, evD, putS, peek, mutS, setM, opB, opC, opF, opIx, opSl, walk, unpS, bindT, refs, argS, putBack, permA, outsOf, atI, ixN, tru, setJ, dsh_ev, deq_ev]
  have m0 := q.m0
  rw [ev1 (dd := d_leads) (by kernel_rfl)]
  unfold d_leads
  cases s with
  | zero e h1 h2 =>
    have e1 : c = a := by grind
    have e2 : d = b := by grind
    subst e1 e2
    generalize ev c d = z1 at *
    simp [evE, evT, evL, evA, evO, evAr, evS, evD, putS, peek, mutS, setM, opB, opF, opIx, opSl, walk, unpS, bindT, refs, argS, putBack, permA, outsOf, atI, ixN, tru, setJ, eqs, forL]
  | one w =>
    rename_i r k
    have f1 := s_flown2 (fu := fu) (n := n) (q.he.le (by decide : 11 ≤ 1500)) (w.bk.le (by decide : 700 ≤ 2000)) (w.br.le (by decide : 1599 ≤ 2000)) w.k0 (w.bkr.le (by decide : 1416 ≤ 2000)) (w.brk.le (by decide : 1416 ≤ 2000))
    have e1 : a + k * r = c := by have := w.u_; grind
    have e2 : b + r / k = d := by have := w.v_; grind
    rw [e1, e2] at f1
    show evD _ _ _ [.val (ev a b), .val (ev c d), .val (.tup [.tup [fr k, fr r]])] = _
    generalize ev a b = z1 at *
    generalize ev c d = z2 at *
    generalize fr k = z3 at *
    generalize fr r = z4 at *
    simp [evE, evT, evL, evA, evO, evAr, evS, evD, putS, peek, mutS, setM, opB, opF, opIx, opSl, walk, unpS, bindT, refs, argS, putBack, permA, outsOf, atI, ixN, tru, setJ, eqs, forL, f1, show 1 ≤ lim by decide]
  | two f0 w =>
    rename_i f r k
    have f1 := s_flown2 (fu := fu) (n := n) (q.he.le (by decide : 11 ≤ 1500)) (q.hk.le (by decide : 3 ≤ 2000)) (w.bf.le (by decide : 1338 ≤ 2000)) m0 (w.bmf.le (by decide : 1341 ≤ 2000)) (w.bfm.le (by decide : 1341 ≤ 2000))
    have f2 := s_flown2 (fu := fu) (n := n) (u := a + m * f) (v := b + f / m) ⟨(q.he.u.add w.bmf).le (by decide), (q.he.v.add w.bfm).le (by decide)⟩ (w.bk.le (by decide : 700 ≤ 2000)) (w.br.le (by decide : 1599 ≤ 2000)) w.k0 (w.bkr.le (by decide : 1416 ≤ 2000)) (w.brk.le (by decide : 1416 ≤ 2000))
    have e1 : a + m * f + k * r = c := by have := w.u_; grind
    have e2 : b + f / m + r / k = d := by have := w.v_; grind
    rw [e1, e2] at f2
    show evD _ _ _ [.val (ev a b), .val (ev c d), .val (.tup [.tup [fr m, fr f], .tup [fr k, fr r]])] = _
    generalize ev (a + m * f) (b + f / m) = z0 at *
    generalize ev a b = z1 at *
    generalize ev c d = z2 at *
    generalize fr k = z3 at *
    generalize fr r = z4 at *
    generalize fr m = z5 at *
    generalize fr f = z6 at *
    simp [evE, evT, evL, evA, evO, evAr, evS, evD, putS, peek, mutS, setM, opB, opF, opIx, opSl, walk, unpS, bindT, refs, argS, putBack, permA, outsOf, atI, ixN, tru, setJ, eqs, forL, f1, f2, show 2 ≤ lim by decide]
theorem s_shows {fu n : Nat} (q : Ask a b c d m) {τ : Rat} (hT : Bq 260 τ) (t0 : 0 ≤ τ) : evF T fu (n + 9) "shows_own_flight" [.val (ev a b), .val (ev c d), .val (fr m), .val (fr τ), .val (toldD (c - a) (d - b) m τ)] = some (.bl true, []) := by
  have o := s_own (fu := fu) (n := n) q hT t0
  have z := s_zero (fu := fu) (n := n + 7)
  rw [ev1 (dd := d_shows_own_flight) (by kernel_rfl)]
  unfold d_shows_own_flight
  unfold toldD at o ⊢
  by_cases h1 : τ < leastW (c - a) (d - b) m
  · rw [if_pos h1] at o ⊢
    have sm := s_same (fu := fu) 2 (n + 5) _ (pls_wf (k := 0) (x := "less") (q := leastW (c - a) (d - b) m))
    have x0 : opIx (.tup [.str "less", fr (leastW (c - a) (d - b) m)]) (.int 0) = some (.str "less") := ixt0
    have ne : opC .ne (.str "less") (.str "plan") = some true := by decide +kernel
    generalize D.tup [.str "less", fr (leastW (c - a) (d - b) m)] = td at *
    generalize ev a b = z1 at *
    generalize ev c d = z2 at *
    generalize fr m = z3 at *
    generalize fr τ = t at *
    simp [evE, evT, evL, evA, evO, evAr, evS, evD, putS, peek, mutS, setM, opB, opF, opSl, walk, unpS, bindT, refs, argS, putBack, permA, outsOf, atI, ixN, tru, setJ, o, sm, x0, ne]
  · rw [if_neg h1] at o ⊢
    by_cases h2 : (c - a) * (d - b) < τ * τ
    · rw [if_pos h2] at o ⊢
      have sm := s_same (fu := fu) 2 (n + 5) _ (pls_wf (k := 0) (x := "more") (q := (c - a) * (d - b)))
      have x0 : opIx (.tup [.str "more", fr ((c - a) * (d - b))]) (.int 0) = some (.str "more") := ixt0
      have ne : opC .ne (.str "more") (.str "plan") = some true := by decide +kernel
      generalize D.tup [.str "more", fr ((c - a) * (d - b))] = td at *
      generalize ev a b = z1 at *
      generalize ev c d = z2 at *
      generalize fr m = z3 at *
      generalize fr τ = t at *
      simp [evE, evT, evL, evA, evO, evAr, evS, evD, putS, peek, mutS, setM, opB, opF, opSl, walk, unpS, bindT, refs, argS, putBack, permA, outsOf, atI, ixN, tru, setJ, o, sm, x0, ne]
    · rw [if_neg h2] at o ⊢
      have sh := q.shp hT t0 (by grind) (by grind)
      obtain ⟨pc, pl⟩ := sh.pc q
      have ip := s_isplan (fu := fu) (n := n + 3) q.m0 q.hk pc pl
      have ld := s_leads (fu := fu) (n := n + 4) q sh
      have x0 : opIx (.tup [.str "plan", .tup ((PW (c - a) (d - b) m τ).map pwD)]) (.int 0) = some (.str "plan") := ixt0
      have x1 : opIx (.tup [.str "plan", .tup ((PW (c - a) (d - b) m τ).map pwD)]) (.int 1) = some (.tup ((PW (c - a) (d - b) m τ).map pwD)) := ixt1
      have ne : opC .ne (.str "plan") (.str "plan") = some false := by decide +kernel
      have eqt : opC .eq (fr τ) (fr τ) = some true := by simp [evE, evT, evL, evA, evO, evAr, evS, evD, putS, peek, mutS, setM, opB, opC, opF, opIx, opSl, walk, unpS, bindT, refs, argS, putBack, permA, outsOf, atI, ixN, tru, setJ, dsh_fr, deq_fr]
      generalize PW (c - a) (d - b) m τ = ps at *
      cases sh with
      | zero e g1 g2 =>
        rw [← e] at z
        generalize D.tup [.str "plan", .tup (([] : List (Rat × Rat)).map pwD)] = td at *
        rw [show ([] : List (Rat × Rat)).map pwD = [] from rfl] at *
        generalize ev a b = z1 at *
        generalize ev c d = z2 at *
        generalize fr m = z3 at *
        generalize fr τ = t at *
        simp [evE, evT, evL, evA, evO, evAr, evS, evD, putS, peek, mutS, setM, opB, opF, opSl, walk, unpS, bindT, refs, argS, putBack, permA, outsOf, atI, ixN, tru, setJ, o, ip, ld, x0, x1, ne, z, forL, eqt]
      | one w =>
        rename_i r k
        have e1 : τ = r := by have := w.t_; grind
        have ad := s_added (fu := fu) (n := n + 6) (p := 0) (q := r) ⟨by decide +kernel, by decide +kernel⟩ (w.br.le (by decide : 1599 ≤ 2000))
        rw [show 0 + r = τ by grind] at ad
        rw [show [(k, r)].map pwD = [.tup [fr k, fr r]] from rfl] at *
        generalize D.tup [.str "plan", .tup [.tup [fr k, fr r]]] = td at *
        generalize ev a b = z1 at *
        generalize ev c d = z2 at *
        generalize fr m = z3 at *
        generalize fr τ = t at *
        generalize fr 0 = zz at *
        generalize fr k = z4 at *
        generalize fr r = z5 at *
        simp [evE, evT, evL, evA, evO, evAr, evS, evD, putS, peek, mutS, setM, opB, opF, opSl, walk, unpS, bindT, refs, argS, putBack, permA, outsOf, atI, ixN, tru, setJ, o, ip, ld, x0, x1, ne, z, forL, eqt, ad, show 1 ≤ lim by decide]
      | two f0 w =>
        rename_i f r k
        have e1 : f + r = τ := w.t_
        have ad := s_added (fu := fu) (n := n + 6) (p := 0) (q := f) ⟨by decide +kernel, by decide +kernel⟩ (w.bf.le (by decide : 1338 ≤ 2000))
        rw [show 0 + f = f by grind] at ad
        have ad2 := s_added (fu := fu) (n := n + 6) (w.bf.le (by decide : 1338 ≤ 2000)) (w.br.le (by decide : 1599 ≤ 2000))
        rw [e1] at ad2
        rw [show [(m, f), (k, r)].map pwD = [.tup [fr m, fr f], .tup [fr k, fr r]] from rfl] at *
        generalize D.tup [.str "plan", .tup [.tup [fr m, fr f], .tup [fr k, fr r]]] = td at *
        generalize ev a b = z1 at *
        generalize ev c d = z2 at *
        generalize fr m = z3 at *
        generalize fr τ = t at *
        generalize fr 0 = zz at *
        generalize fr k = z4 at *
        generalize fr r = z5 at *
        generalize fr f = z6 at *
        simp [evE, evT, evL, evA, evO, evAr, evS, evD, putS, peek, mutS, setM, opB, opF, opSl, walk, unpS, bindT, refs, argS, putBack, permA, outsOf, atI, ixN, tru, setJ, o, ip, ld, x0, x1, ne, z, forL, eqt, ad, ad2, show 2 ≤ lim by decide]
end L09

namespace L09
open PySem L2 Mn TL
variable {a b c d m : Rat}
/-! ### the law's own -/
theorem s_lleast {fu n : Nat} (q : Ask a b c d m) (hf : 8001 ≤ fu) : evF T fu (n + 5) "_law_within_least" [.val (ev a b), .val (ev c d), .val (fr m)] = some (fr (leastW (c - a) (d - b) m), []) := by
  have gr := s_more (fu := fu) (n := n) (q.he.le (by decide : 11 ≤ 1900)) (q.hg.le (by decide : 60 ≤ 1900)) hf
  rw [show ev (c - a) (d - b) = .tup [fr (c - a), fr (d - b)] from rfl] at gr
  have m1 := s_lplus (fu := fu) (n := n + 1) (q.u.le (by decide : 72 ≤ 1900)) (q.v.le (by decide : 72 ≤ 1900)) hf
  have m2 := s_lover (fu := fu) (n := n + 1) (p := 1) (⟨by decide, by decide⟩ : Bq 1900 (1 : Rat)) (q.hk.le (by decide : 3 ≤ 1900)) q.m0 hf
  rw [fr_one] at m2
  have m3 := s_lplus (fu := fu) (n := n + 1) (q.hk.le (by decide : 3 ≤ 1900)) (q.im.le (by decide : 3 ≤ 1900)) hf
  have m4 := s_lover (fu := fu) (n := n + 1) ((q.u.add q.v).le (by decide : 72 + 72 + 1 ≤ 1900)) ((q.hk.add q.im).le (by decide : 3 + 3 + 1 ≤ 1900)) q.den hf
  unfold leastW
  rw [ev1 (dd := d__law_within_least) (by kernel_rfl)]
  unfold d__law_within_least
  generalize fr ((c - a + (d - b)) / (m + 1 / m)) = y1 at *
  generalize fr (c - a + (d - b)) = y2 at *
  generalize fr (m + 1 / m) = y3 at *
  generalize fr (1 / m) = y4 at *
  generalize fr (c - a) = y5 at *
  generalize fr (d - b) = y6 at *
  generalize ev a b = z1 at *
  generalize ev c d = z2 at *
  generalize fr m = z3 at *
  simp [evE, evT, evL, evA, evO, evAr, evS, evD, putS, peek, mutS, setM, opB, opC, opF, opIx, opSl, walk, unpS, bindT, refs, argS, putBack, permA, outsOf, atI, ixN, tru, setJ, gr, m1, m2, m3, m4, show 2 ≤ lim by decide]
theorem s_lfis {fu n : Nat} {q : Rat} (h : Bq 1900 q) (hf : 8001 ≤ fu) : evF T fu (n + 2) "_law_frac_is" [.val (fr q)] = some (.bl true, []) := by
  have cm := s_common (fu := fu) (n := n) (a := q.num) (b := (q.den : Int)) (by rw [Int.natAbs_natCast]; exact Nat.lt_of_lt_of_le h.d (Nat.pow_le_pow_right (by decide) (by decide))) hf
  rw [Int.natAbs_natCast, show Nat.gcd q.num.natAbs q.den = 1 from q.reduced] at cm
  have k1 := kt (xs := [.int q.num, .int (q.den : Int)])
  have ti : opF (.isi "tuple") [fr q] = some (.bl true) := by
    show opF (.isi "tuple") [.tup [.int q.num, .int (q.den : Int)]] = _
    simp [evE, evT, evL, evA, evO, evAr, evS, evD, putS, peek, mutS, setM, opB, opC, opF, opIx, opSl, walk, unpS, bindT, refs, argS, putBack, permA, outsOf, atI, ixN, tru, setJ, k1]
  have lf : opF .len [fr q] = some (.int 2) := rfl
  have ne : opC .ne (.int 2) (.int 2) = some false := by decide +kernel
  have t1 : ∀ i : Int, opF (.isi "int") [.int i] = some (.bl true) := fun i => by have := ki (i := i); simp [evE, evT, evL, evA, evO, evAr, evS, evD, putS, peek, mutS, setM, opB, opC, opF, opIx, opSl, walk, unpS, bindT, refs, argS, putBack, permA, outsOf, atI, ixN, tru, setJ, this]
  have t2 : ∀ i : Int, opF (.isi "bool") [.int i] = some (.bl false) := fun i => by have := kib (i := i); simp [evE, evT, evL, evA, evO, evAr, evS, evD, putS, peek, mutS, setM, opB, opC, opF, opIx, opSl, walk, unpS, bindT, refs, argS, putBack, permA, outsOf, atI, ixN, tru, setJ, this]
  have x0 := ix0 (q := q)
  have x1 := ix1 (q := q)
  have lt : opC .lt (.int (q.den : Int)) (.int 1) = some false := by
    show some (decide ((q.den : Int) < 1)) = _
    rw [decide_eq_false (by have := q.den_pos; omega)]
  have e1 : opC .eq (.int 1) (.int 1) = some true := by decide +kernel
  rw [show ((1 : Nat) : Int) = 1 from rfl] at cm
  have al : opF .all [.lst [.bl true, .bl true]] = some (.bl true) := rfl
  have wk : walk .seq [fr q] = some [.int q.num, .int (q.den : Int)] := rfl
  rw [ev1 (dd := d__law_frac_is) (by kernel_rfl)]
  unfold d__law_frac_is
  generalize fr q = z at *
  generalize q.num = nu at *
  generalize (q.den : Int) = de at *
  simp [evE, evT, evL, evA, evO, evAr, evS, evD, putS, peek, mutS, setM, opB, opSl, unpS, bindT, refs, argS, putBack, permA, outsOf, atI, ixN, tru, setJ, wk, ti, lf, ne, t1, t2, x0, x1, lt, cm, e1, al, compL, wipeE, backE, show 2 ≤ lim by decide]
theorem s_lfpace {fu n : Nat} {q : Rat} (h : Bq 1900 q) (h0 : 0 < q) (hf : 8001 ≤ fu) : evF T fu (n + 3) "_law_frac_is_pace" [.val (fr q)] = some (.bl true, []) := by
  have m1 := s_lfis (fu := fu) (n := n) h hf
  have x0 := ix0 (q := q)
  have gt : opC .gt (.int q.num) (.int 0) = some true := by
    show some (decide (0 < q.num)) = _
    rw [decide_eq_true (numpos h0)]
  rw [ev1 (dd := d__law_frac_is_pace) (by kernel_rfl)]
  unfold d__law_frac_is_pace
  generalize fr q = z at *
  generalize q.num = nu at *
  simp [evE, evT, evL, evA, evO, evAr, evS, evD, putS, peek, mutS, setM, opB, opF, opSl, walk, unpS, bindT, refs, argS, putBack, permA, outsOf, atI, ixN, tru, setJ, m1, x0, gt]
theorem s_lgone2 {fu n : Nat} {u v p w : Rat} (h : Be 1500 u v) (hp : Bq 1900 p) (hw : Bq 1900 w) (p0 : 0 < p) (b1 : Bq 1900 (p * w)) (b2 : Bq 1900 (w / p)) (hf : 8001 ≤ fu) : evF T fu (n + 4) "_law_event_gone" [.val (ev u v), .val (fr p), .val (fr w)] = some (ev (u + p * w) (v + w / p), []) := by
  have m1 := s_ltimes (fu := fu) (n := n) hp hw hf
  have m2 := s_lover (fu := fu) (n := n) hw hp p0 hf
  have a1 := s_lplus (fu := fu) (n := n) (h.u.le (by decide : 1500 ≤ 1900)) b1 hf
  have a2 := s_lplus (fu := fu) (n := n) (h.v.le (by decide : 1500 ≤ 1900)) b2 hf
  rw [ev1 (dd := d__law_event_gone) (by kernel_rfl)]
  unfold d__law_event_gone ev
  generalize fr (p * w) = x1 at m1 a1
  generalize fr (w / p) = x2 at m2 a2
  generalize fr (u + p * w) = y1 at a1 ⊢
  generalize fr (v + w / p) = y2 at a2 ⊢
  generalize fr p = pp at m1 m2 ⊢
  generalize fr w = ww at m1 m2 ⊢
  generalize fr u = uu at a1 ⊢
  generalize fr v = vv at a2 ⊢
  simp [evE, evT, evL, evA, evO, evAr, evS, evD, putS, peek, mutS, setM, opB, opC, opF, opSl, walk, unpS, bindT, refs, argS, putBack, permA, outsOf, atI, ixN, tru, setJ, ixt0, ixt1, m1, m2, a1, a2, show 2 ≤ lim by decide]
def bLd : Sm := (.seq (.iff (.tor (.tnot (.tval (.blt (.isi "tuple") (.cons (.var 4) .nil)))) (.tor (.tval (.cmp .ne (.blt .len (.cons (.var 4) .nil)) (.con (.int 2)))) (.tnot (.tval (.blt .all (.cons (.comp (.seq) (.cons (.var 4) .nil) (.one 7) .tyes (.call "_law_frac_is_pace" [0] (.cons (.tval (.var 7)) .nil)) [7]) .nil)))))) (.seq (.ret (.con (.bl false))) .nil) .nil) (.seq (.iff (.tor (.tval (.call "_law_frac_is_less" [0, 1] (.cons (.tval (.ix (.var 4) (.con (.int 0)))) (.cons (.tval (.var 5)) .nil)))) (.tval (.call "_law_frac_is_less" [0, 1] (.cons (.tval (.var 2)) (.cons (.tval (.ix (.var 4) (.con (.int 0)))) .nil))))) (.seq (.ret (.con (.bl false))) .nil) .nil) (.seq (.asg 6 (.call "_law_event_gone" [0, 1, 2] (.cons (.tval (.var 6)) (.cons (.tval (.ix (.var 4) (.con (.int 0)))) (.cons (.tval (.ix (.var 4) (.con (.int 1)))) .nil))))) .nil)))
theorem ld_step {fu n : Nat} {z : Rat × Rat} {x y : Rat} (m0 : 0 < m) (hm : Bq 3 m) (h : Pc m z) (he : Be 1500 x y) (b1 : Bq 1900 (z.1 * z.2)) (b2 : Bq 1900 (z.2 / z.1)) (hf : 8001 ≤ fu) (e0 e1 e3 : D) :
    evS (evF T fu (n + 4)) fu bLd [some (.val e0), some (.val e1), some (.val (fr m)), some (.val e3), some (.val (pwD z)), some (.val (fr (1 / m))), some (.val (ev x y)), none] = some (.nx, [some (.val e0), some (.val e1), some (.val (fr m)), some (.val e3), some (.val (pwD z)), some (.val (fr (1 / m))), some (.val (ev (x + z.1 * z.2) (y + z.2 / z.1))), none]) := by
  have p1 := s_lfpace (fu := fu) (n := n + 1) (h.bk.le (by decide : 700 ≤ 1900)) h.k0 hf
  have p2 := s_lfpace (fu := fu) (n := n + 1) (h.bt.le (by decide : 1599 ≤ 1900)) h.t0 hf
  have l1 := s_lisless (fu := fu) (n := n + 3) (h.bk.le (by decide : 700 ≤ 3000)) ((hm.inv m0).le (by decide : 3 ≤ 3000))
  have l2 := s_lisless (fu := fu) (n := n + 3) (hm.le (by decide : 3 ≤ 3000)) (h.bk.le (by decide : 700 ≤ 3000))
  rw [decide_eq_false (by have := h.lo; grind)] at l1
  rw [decide_eq_false (by have := h.hi; grind)] at l2
  have g := s_lgone2 (fu := fu) (n := n) he (h.bk.le (by decide : 700 ≤ 1900)) (h.bt.le (by decide : 1599 ≤ 1900)) h.k0 b1 b2 hf
  have k1 := kt (xs := [fr z.1, fr z.2])
  have ti : opF (.isi "tuple") [pwD z] = some (.bl true) := by
    show opF (.isi "tuple") [.tup [fr z.1, fr z.2]] = _
    simp [evE, evT, evL, evA, evO, evAr, evS, evD, putS, peek, mutS, setM, opB, opC, opF, opIx, opSl, walk, unpS, bindT, refs, argS, putBack, permA, outsOf, atI, ixN, tru, setJ, k1]
  have lf : opF .len [pwD z] = some (.int 2) := rfl
  have ne : opC .ne (.int 2) (.int 2) = some false := by decide +kernel
  have x0 : opIx (pwD z) (.int 0) = some (fr z.1) := ixt0
  have x1 : opIx (pwD z) (.int 1) = some (fr z.2) := ixt1
  have al : opF .all [.lst [.bl true, .bl true]] = some (.bl true) := rfl
  have wk : walk .seq [pwD z] = some [fr z.1, fr z.2] := rfl
  unfold bLd
  generalize pwD z = zz at *
  generalize ev (x + z.1 * z.2) (y + z.2 / z.1) = y1 at *
  generalize fr z.1 = z1 at *
  generalize fr z.2 = z2 at *
  generalize ev x y = y2 at *
  generalize fr (1 / m) = y3 at *
  generalize fr m = y4 at *
  simp [evE, evT, evL, evA, evO, evAr, evS, evD, putS, peek, mutS, setM, opB, opSl, unpS, bindT, refs, argS, putBack, permA, outsOf, atI, ixN, tru, setJ, wk, ti, lf, ne, x0, x1, al, p1, p2, l1, l2, g, compL, wipeE, backE, show 2 ≤ lim by decide]
theorem s_lleads {fu n : Nat} {τ : Rat} {ps : List (Rat × Rat)} (q : Ask a b c d m) (s : Shp a b c d m τ ps) (hf : 8001 ≤ fu) : evF T fu (n + 5) "_law_within_leads" [.val (ev a b), .val (ev c d), .val (fr m), .val (.tup (ps.map pwD))] = some (.bl true, []) := by
  have eqs : opC .eq (ev c d) (ev c d) = some true := by simp [evE, evT, evL, evA, evO, evAr, evS, evD, putS, peek, mutS, setM, opB, opC, opF, opIx, opSl, walk, unpS, bindT, refs, argS, putBack, permA, outsOf, atI, ixN, tru, setJ, dsh_ev, deq_ev]
  have m0 := q.m0
  have bk := s_lover (fu := fu) (n := n + 1) (p := 1) (⟨by decide, by decide⟩ : Bq 1900 (1 : Rat)) (q.hk.le (by decide : 3 ≤ 1900)) q.m0 hf
  rw [fr_one] at bk
  have k1 := kt (xs := ps.map pwD)
  have ti : opF (.isi "tuple") [.tup (ps.map pwD)] = some (.bl true) := by simp [evE, evT, evL, evA, evO, evAr, evS, evD, putS, peek, mutS, setM, opB, opC, opF, opIx, opSl, walk, unpS, bindT, refs, argS, putBack, permA, outsOf, atI, ixN, tru, setJ, k1]
  obtain ⟨pc, pl⟩ := s.pc q
  obtain ⟨PP, hPP⟩ : ∃ P : D, P = .tup (ps.map pwD) := ⟨_, rfl⟩
  rw [ev1 (dd := d__law_within_leads) (by kernel_rfl)]
  unfold d__law_within_leads
  obtain ⟨B, hB⟩ : ∃ B, B = bLd := ⟨_, rfl⟩
  have hB2 := hB
  unfold bLd at hB2
  rw [← hB2]
  clear hB2
  cases s with
  | zero e h1 h2 =>
    have e1 : c = a := by grind
    have e2 : d = b := by grind
    subst e1 e2
    rw [show ([] : List (Rat × Rat)).map pwD = [] from rfl] at *
    generalize ev c d = z1 at *
    generalize fr m = z2 at *
    generalize fr (1 / m) = z3 at *
    simp [evE, evT, evL, evA, evO, evAr, evS, evD, putS, peek, mutS, setM, opB, opIx, opSl, walk, unpS, bindT, refs, argS, putBack, permA, outsOf, atI, ixN, tru, setJ, ti, bk, eqs, forL, show 2 ≤ lim by decide]
  | one w =>
    rename_i r k
    have st := ld_step (fu := fu) (n := n) (z := (k, r)) m0 q.hk (pc _ (by simp [evE, evT, evL, evA, evO, evAr, evS, evD, putS, peek, mutS, setM, opB, opC, opF, opIx, opSl, walk, unpS, bindT, refs, argS, putBack, permA, outsOf, atI, ixN, tru, setJ])) (q.he.le (by decide : 11 ≤ 1500)) (w.bkr.le (by decide : 1416 ≤ 1900)) (w.brk.le (by decide : 1416 ≤ 1900)) hf (ev a b) (ev c d) PP
    have e1 : a + k * r = c := by have := w.u_; grind
    have e2 : b + r / k = d := by have := w.v_; grind
    rw [show ev (a + (k, r).1 * (k, r).2) (b + (k, r).2 / (k, r).1) = ev c d by rw [← e1, ← e2], ← hB] at st
    rw [show [(k, r)].map pwD = [pwD (k, r)] from rfl] at *
    subst hPP
    clear hB
    generalize pwD (k, r) = pw at *
    generalize ev a b = z1 at *
    generalize ev c d = z2 at *
    generalize fr m = z3 at *
    generalize fr (1 / m) = z4 at *
    simp [evE, evT, evL, evA, evO, evAr, evS, evD, putS, peek, mutS, setM, opB, opIx, opSl, walk, unpS, bindT, refs, argS, putBack, permA, outsOf, atI, ixN, tru, setJ, ti, bk, eqs, forL, st, show 1 ≤ lim by decide, show 2 ≤ lim by decide]
  | two f0 w =>
    rename_i f r k
    have st := ld_step (fu := fu) (n := n) (z := (m, f)) m0 q.hk (pc _ (by simp [evE, evT, evL, evA, evO, evAr, evS, evD, putS, peek, mutS, setM, opB, opC, opF, opIx, opSl, walk, unpS, bindT, refs, argS, putBack, permA, outsOf, atI, ixN, tru, setJ])) (q.he.le (by decide : 11 ≤ 1500)) (w.bmf.le (by decide : 1341 ≤ 1900)) (w.bfm.le (by decide : 1341 ≤ 1900)) hf (ev a b) (ev c d) PP
    have st2 := ld_step (fu := fu) (n := n) (z := (k, r)) m0 q.hk (pc _ (by simp [evE, evT, evL, evA, evO, evAr, evS, evD, putS, peek, mutS, setM, opB, opC, opF, opIx, opSl, walk, unpS, bindT, refs, argS, putBack, permA, outsOf, atI, ixN, tru, setJ])) (x := a + m * f) (y := b + f / m) ⟨(q.he.u.add w.bmf).le (by decide), (q.he.v.add w.bfm).le (by decide)⟩ (w.bkr.le (by decide : 1416 ≤ 1900)) (w.brk.le (by decide : 1416 ≤ 1900)) hf (ev a b) (ev c d) PP
    have e1 : a + m * f + k * r = c := by have := w.u_; grind
    have e2 : b + f / m + r / k = d := by have := w.v_; grind
    rw [show ev (a + (m, f).1 * (m, f).2) (b + (m, f).2 / (m, f).1) = ev (a + m * f) (b + f / m) from rfl, ← hB] at st
    rw [show ev (a + m * f + (k, r).1 * (k, r).2) (b + f / m + (k, r).2 / (k, r).1) = ev c d by rw [← e1, ← e2], ← hB] at st2
    rw [show [(m, f), (k, r)].map pwD = [pwD (m, f), pwD (k, r)] from rfl] at *
    subst hPP
    clear hB
    generalize pwD (k, r) = pw at *
    generalize pwD (m, f) = pw2 at *
    generalize ev (a + m * f) (b + f / m) = z0 at *
    generalize ev a b = z1 at *
    generalize ev c d = z2 at *
    generalize fr m = z3 at *
    generalize fr (1 / m) = z4 at *
    simp [evE, evT, evL, evA, evO, evAr, evS, evD, putS, peek, mutS, setM, opB, opIx, opSl, walk, unpS, bindT, refs, argS, putBack, permA, outsOf, atI, ixN, tru, setJ, ti, bk, eqs, forL, st, st2, show 2 ≤ lim by decide]
theorem s_lsum2 {fu n : Nat} {τ : Rat} {ps : List (Rat × Rat)} (q : Ask a b c d m) (s : Shp a b c d m τ ps) (hf : 8001 ≤ fu) : evF T fu (n + 4) "_law_frac_sum" [.val (.lst (ps.map fun z => fr z.2))] = some (fr τ, []) := by
  rw [ev1 (dd := d__law_frac_sum) (by kernel_rfl)]
  unfold d__law_frac_sum
  cases s with
  | zero e h1 h2 =>
    rw [e, fr_zero]
    simp [evE, evT, evL, evA, evO, evAr, evS, evD, putS, peek, mutS, setM, opB, opC, opF, opIx, opSl, walk, unpS, bindT, refs, argS, putBack, permA, outsOf, atI, ixN, tru, setJ, forL, show 2 ≤ lim by decide]
  | one w =>
    rename_i r k
    have e1 : 0 + r = τ := by have := w.t_; grind
    have ad := s_lplus (fu := fu) (n := n) (p := 0) (q := r) ⟨by decide +kernel, by decide +kernel⟩ (w.br.le (by decide : 1599 ≤ 1900)) hf
    rw [e1, fr_zero] at ad
    show evD _ _ _ [.val (.lst [fr r])] = _
    generalize fr τ = t at *
    generalize fr r = z5 at *
    simp [evE, evT, evL, evA, evO, evAr, evS, evD, putS, peek, mutS, setM, opB, opC, opF, opIx, opSl, walk, unpS, bindT, refs, argS, putBack, permA, outsOf, atI, ixN, tru, setJ, forL, ad, show 1 ≤ lim by decide, show 2 ≤ lim by decide]
  | two f0 w =>
    rename_i f r k
    have e1 : f + r = τ := w.t_
    have ad := s_lplus (fu := fu) (n := n) (p := 0) (q := f) ⟨by decide +kernel, by decide +kernel⟩ (w.bf.le (by decide : 1338 ≤ 1900)) hf
    rw [show 0 + f = f by grind, fr_zero] at ad
    have ad2 := s_lplus (fu := fu) (n := n) (w.bf.le (by decide : 1338 ≤ 1900)) (w.br.le (by decide : 1599 ≤ 1900)) hf
    rw [e1] at ad2
    show evD _ _ _ [.val (.lst [fr f, fr r])] = _
    generalize fr τ = t at *
    generalize fr r = z5 at *
    generalize fr f = z6 at *
    simp [evE, evT, evL, evA, evO, evAr, evS, evD, putS, peek, mutS, setM, opB, opC, opF, opIx, opSl, walk, unpS, bindT, refs, argS, putBack, permA, outsOf, atI, ixN, tru, setJ, forL, ad, ad2, show 2 ≤ lim by decide]
end L09

namespace L09
open PySem L2 Mn TL
variable {a b c d m : Rat}
/-! ### the law's own root -/
def cR1 : Ex := .tval (.cmp .le (.bin .mul (.var 2) (.var 2)) (.var 0))
def bR1 : Sm := (.seq (.asg 2 (.bin .mul (.con (.int 2)) (.var 2))) .nil)
theorem root1 {F : FT} {fu : Nat} {N : Nat} : ∀ (k g h : Nat), k + 1 ≤ g → 0 < h → N < h * h * 4 ^ k → h * 2 ^ k < 2 ^ 100 →
    ∃ h' : Nat, h' < 2 ^ 100 ∧ whlN (fun e => evT F cR1 e) (fun e => evS F fu bR1 e) g [some (.val (.int (N : Int))), some (.val (.int 0)), some (.val (.int (h : Int))), none] = some (.nx, [some (.val (.int (N : Int))), some (.val (.int 0)), some (.val (.int (h' : Int))), none]) := by
  intro k
  induction k with
  | zero =>
    intro g h hg h0 hN hb
    obtain ⟨g, rfl⟩ : ∃ j, g = j + 1 := ⟨g - 1, by omega⟩
    have hh : h < 2 ^ 100 := by simpa using hb
    have s1 := wm (h : Int) 200 (by omega) (by decide)
    have mu : opB .mul (.int (h : Int)) (.int (h : Int)) = some (.int ((h * h : Nat) : Int)) := by
      show (if sm (h : Int) && sm (h : Int) then some (D.int ((h : Int) * (h : Int))) else none) = _
      rw [s1]; rfl
    have le : opC .le (.int ((h * h : Nat) : Int)) (.int (N : Int)) = some false := by
      show some (decide (((h * h : Nat) : Int) ≤ (N : Int))) = _
      rw [decide_eq_false (by rw [Nat.pow_zero, Nat.mul_one] at hN; omega)]
    refine ⟨h, hh, ?_⟩
    unfold whlN cR1
    generalize ((h * h : Nat) : Int) = hhh at *
    simp [evE, evT, evL, evA, evO, evAr, evS, evD, putS, peek, mutS, setM, opF, opIx, opSl, walk, unpS, bindT, refs, argS, putBack, permA, outsOf, atI, ixN, tru, setJ, mu, le]
  | succ k ih =>
    intro g h hg h0 hN hb
    obtain ⟨g, rfl⟩ : ∃ j, g = j + 1 := ⟨g - 1, by omega⟩
    have hh : h < 2 ^ 100 := Nat.lt_of_le_of_lt (Nat.le_mul_of_pos_right h (Nat.two_pow_pos (k + 1))) hb
    have s1 := wm (h : Int) 200 (by omega) (by decide)
    have s2 := wm (2 : Int) 10 (by decide) (by decide)
    have mu : opB .mul (.int (h : Int)) (.int (h : Int)) = some (.int ((h * h : Nat) : Int)) := by
      show (if sm (h : Int) && sm (h : Int) then some (D.int ((h : Int) * (h : Int))) else none) = _
      rw [s1]; rfl
    have mu2 : opB .mul (.int 2) (.int (h : Int)) = some (.int ((2 * h : Nat) : Int)) := by
      show (if sm 2 && sm (h : Int) then some (D.int (2 * (h : Int))) else none) = _
      rw [s1, s2]; rfl
    have le : opC .le (.int ((h * h : Nat) : Int)) (.int (N : Int)) = some (decide (h * h ≤ N)) := by
      show some (decide (((h * h : Nat) : Int) ≤ (N : Int))) = _
      congr 1
      exact decide_eq_decide.2 (by omega)
    by_cases q : h * h ≤ N
    · obtain ⟨h', b1, e⟩ := ih g (2 * h) (by omega) (by omega) (by
        have : 2 * h * (2 * h) * 4 ^ k = h * h * 4 ^ (k + 1) := by rw [Nat.pow_succ]; grind
        omega) (by
        have : 2 * h * 2 ^ k = h * 2 ^ (k + 1) := by rw [Nat.pow_succ]; grind
        omega)
      refine ⟨h', b1, ?_⟩
      rw [decide_eq_true q] at le
      unfold whlN
      have c1 : evT F cR1 [some (.val (.int (N : Int))), some (.val (.int 0)), some (.val (.int (h : Int))), none] = some (true, [some (.val (.int (N : Int))), some (.val (.int 0)), some (.val (.int (h : Int))), none]) := by
        unfold cR1
        generalize ((h * h : Nat) : Int) = hhh at *
        simp [evE, evT, evL, evA, evO, evAr, evS, evD, putS, peek, mutS, setM, opF, opIx, opSl, walk, unpS, bindT, refs, argS, putBack, permA, outsOf, atI, ixN, tru, setJ, mu, le]
      have c2 : evS F fu bR1 [some (.val (.int (N : Int))), some (.val (.int 0)), some (.val (.int (h : Int))), none] = some (.nx, [some (.val (.int (N : Int))), some (.val (.int 0)), some (.val (.int ((2 * h : Nat) : Int))), none]) := by
        unfold bR1
        generalize ((2 * h : Nat) : Int) = hhh at *
        simp [evE, evT, evL, evA, evO, evAr, evS, evD, putS, peek, mutS, setM, opF, opIx, opSl, walk, unpS, bindT, refs, argS, putBack, permA, outsOf, atI, ixN, tru, setJ, mu2]
      simp only [c1, c2, Option.bind_some, Option.bind_eq_bind, if_true]
      exact e
    · refine ⟨h, hh, ?_⟩
      rw [decide_eq_false q] at le
      unfold whlN cR1
      generalize ((h * h : Nat) : Int) = hhh at *
      simp [evE, evT, evL, evA, evO, evAr, evS, evD, putS, peek, mutS, setM, opF, opIx, opSl, walk, unpS, bindT, refs, argS, putBack, permA, outsOf, atI, ixN, tru, setJ, mu, le]
def cR2 : Ex := .tval (.cmp .gt (.bin .sub (.var 2) (.var 1)) (.con (.int 1)))
def bR2 : Sm := (.seq (.asg 3 (.bin .div (.bin .add (.var 1) (.var 2)) (.con (.int 2)))) (.seq (.unp [1, 2] (.ite (.tval (.cmp .le (.bin .mul (.var 3) (.var 3)) (.var 0))) (.tup (.cons (.var 3) (.cons (.var 2) .nil))) (.tup (.cons (.var 1) (.cons (.var 3) .nil))))) .nil))
theorem root2 {F : FT} {fu : Nat} {N : Nat} : ∀ (k g l h : Nat) (e3 : Option Sl), k + 1 ≤ g → l ≤ h → h - l ≤ 2 ^ k → h < 2 ^ 100 → Fre e3 →
    ∃ (l' h' : Nat) (f3 : Option Sl), l' < 2 ^ 100 ∧ Fre f3 ∧ whlN (fun e => evT F cR2 e) (fun e => evS F fu bR2 e) g [some (.val (.int (N : Int))), some (.val (.int (l : Int))), some (.val (.int (h : Int))), e3] = some (.nx, [some (.val (.int (N : Int))), some (.val (.int (l' : Int))), some (.val (.int (h' : Int))), f3]) := by
  intro k
  induction k with
  | zero =>
    intro g l h e3 hg hl hd hb h3
    obtain ⟨g, rfl⟩ : ∃ j, g = j + 1 := ⟨g - 1, by omega⟩
    have su : opB .sub (.int (h : Int)) (.int (l : Int)) = some (.int ((h : Int) - (l : Int))) := rfl
    have gt : opC .gt (.int ((h : Int) - (l : Int))) (.int 1) = some false := by
      show some (decide (1 < (h : Int) - (l : Int))) = _
      rw [decide_eq_false (by rw [Nat.pow_zero] at hd; omega)]
    refine ⟨l, h, e3, by omega, h3, ?_⟩
    unfold whlN cR2
    generalize (h : Int) - (l : Int) = x at *
    simp [evE, evT, evL, evA, evO, evAr, evS, evD, putS, peek, mutS, setM, opF, opIx, opSl, walk, unpS, bindT, refs, argS, putBack, permA, outsOf, atI, ixN, tru, setJ, su, gt]
  | succ k ih =>
    intro g l h e3 hg hl hd hb h3
    obtain ⟨g, rfl⟩ : ∃ j, g = j + 1 := ⟨g - 1, by omega⟩
    have su : opB .sub (.int (h : Int)) (.int (l : Int)) = some (.int ((h : Int) - (l : Int))) := rfl
    have gt : opC .gt (.int ((h : Int) - (l : Int))) (.int 1) = some (decide (1 < h - l)) := by
      show some (decide (1 < (h : Int) - (l : Int))) = _
      congr 1
      exact decide_eq_decide.2 (by omega)
    by_cases q : 1 < h - l
    · rw [decide_eq_true q] at gt
      obtain ⟨md, hmd⟩ : ∃ md : Nat, md = (l + h) / 2 := ⟨_, rfl⟩
      have s2 := wm (2 : Int) 10 (by decide) (by decide)
      have ad : opB .add (.int (l : Int)) (.int (h : Int)) = some (.int ((l : Int) + (h : Int))) := rfl
      have dv : opB .div (.int ((l : Int) + (h : Int))) (.int 2) = some (.int (md : Int)) := by
        show (if sm 2 && decide ((2 : Int) ≠ 0) then some (D.int (((l : Int) + (h : Int)).fdiv 2)) else none) = _
        rw [s2, if_pos (by decide)]
        congr 2
        rw [Int.fdiv_eq_ediv_of_nonneg _ (by decide), hmd]
        omega
      have s1 := wm (md : Int) 200 (by omega) (by decide)
      have mu : opB .mul (.int (md : Int)) (.int (md : Int)) = some (.int ((md * md : Nat) : Int)) := by
        show (if sm (md : Int) && sm (md : Int) then some (D.int ((md : Int) * (md : Int))) else none) = _
        rw [s1]; rfl
      have le : opC .le (.int ((md * md : Nat) : Int)) (.int (N : Int)) = some (decide (md * md ≤ N)) := by
        show some (decide (((md * md : Nat) : Int) ≤ (N : Int))) = _
        congr 1
        exact decide_eq_decide.2 (by omega)
      have hd2 : h - l ≤ 2 * 2 ^ k := by rw [Nat.pow_succ] at hd; omega
      have c1 : evT F cR2 [some (.val (.int (N : Int))), some (.val (.int (l : Int))), some (.val (.int (h : Int))), e3] = some (true, [some (.val (.int (N : Int))), some (.val (.int (l : Int))), some (.val (.int (h : Int))), e3]) := by
        unfold cR2
        generalize (h : Int) - (l : Int) = x at *
        simp [evE, evT, evL, evA, evO, evAr, evS, evD, putS, peek, mutS, setM, opF, opIx, opSl, walk, unpS, bindT, refs, argS, putBack, permA, outsOf, atI, ixN, tru, setJ, su, gt]
      by_cases y : md * md ≤ N
      · rw [decide_eq_true y] at le
        obtain ⟨l', h', f3, b1, g3, e⟩ := ih g md h (some (.val (.int (md : Int)))) (by omega) (by omega) (by omega) hb (.inr ⟨_, rfl⟩)
        refine ⟨l', h', f3, b1, g3, ?_⟩
        have c2 : evS F fu bR2 [some (.val (.int (N : Int))), some (.val (.int (l : Int))), some (.val (.int (h : Int))), e3] = some (.nx, [some (.val (.int (N : Int))), some (.val (.int (md : Int))), some (.val (.int (h : Int))), some (.val (.int (md : Int)))]) := by
          unfold bR2
          generalize ((md * md : Nat) : Int) = x at *
          generalize (l : Int) + (h : Int) = x2 at *
          generalize (md : Int) = x3 at *
          rcases h3 with rfl | ⟨z, rfl⟩ <;> simp [evE, evT, evL, evA, evO, evAr, evS, evD, putS, peek, mutS, setM, opF, opIx, opSl, walk, unpS, bindT, refs, argS, putBack, permA, outsOf, atI, ixN, tru, setJ, ad, dv, mu, le, show 2 ≤ lim by decide]
        unfold whlN
        simp only [c1, c2, Option.bind_some, Option.bind_eq_bind, if_true]
        exact e
      · rw [decide_eq_false y] at le
        obtain ⟨l', h', f3, b1, g3, e⟩ := ih g l md (some (.val (.int (md : Int)))) (by omega) (by omega) (by omega) (by omega) (.inr ⟨_, rfl⟩)
        refine ⟨l', h', f3, b1, g3, ?_⟩
        have c2 : evS F fu bR2 [some (.val (.int (N : Int))), some (.val (.int (l : Int))), some (.val (.int (h : Int))), e3] = some (.nx, [some (.val (.int (N : Int))), some (.val (.int (l : Int))), some (.val (.int (md : Int))), some (.val (.int (md : Int)))]) := by
          unfold bR2
          generalize ((md * md : Nat) : Int) = x at *
          generalize (l : Int) + (h : Int) = x2 at *
          generalize (md : Int) = x3 at *
          rcases h3 with rfl | ⟨z, rfl⟩ <;> simp [evE, evT, evL, evA, evO, evAr, evS, evD, putS, peek, mutS, setM, opF, opIx, opSl, walk, unpS, bindT, refs, argS, putBack, permA, outsOf, atI, ixN, tru, setJ, ad, dv, mu, le, show 2 ≤ lim by decide]
        unfold whlN
        simp only [c1, c2, Option.bind_some, Option.bind_eq_bind, if_true]
        exact e
    · rw [decide_eq_false q] at gt
      refine ⟨l, h, e3, by omega, h3, ?_⟩
      unfold whlN cR2
      generalize (h : Int) - (l : Int) = x at *
      simp [evE, evT, evL, evA, evO, evAr, evS, evD, putS, peek, mutS, setM, opF, opIx, opSl, walk, unpS, bindT, refs, argS, putBack, permA, outsOf, atI, ixN, tru, setJ, su, gt]
theorem s_root {fu n N : Nat} (hN : N < 2 ^ 180) (hf : 8001 ≤ fu) : ∃ l : Nat, l < 2 ^ 100 ∧ evF T fu (n + 1) "_law_root" [.val (.int (N : Int))] = some (.int (l : Int), []) := by
  have p4 : (4 : Nat) ^ 90 = 2 ^ 180 := by decide +kernel
  obtain ⟨h, hb, e1⟩ := root1 (F := evF T fu n) (fu := fu) (N := N) 90 fu 1 (by omega) (by decide) (by rw [p4]; omega) (by decide +kernel)
  obtain ⟨l, h', f3, lb, g3, e2⟩ := root2 (F := evF T fu n) (fu := fu) (N := N) 100 fu 0 h none (by omega) (Nat.zero_le _) (by omega) hb (.inl rfl)
  refine ⟨l, lb, ?_⟩
  have w1 : evS (evF T fu n) fu (.whl cR1 bR1) [some (.val (.int (N : Int))), some (.val (.int 0)), some (.val (.int 1)), none] = some (.nx, [some (.val (.int (N : Int))), some (.val (.int 0)), some (.val (.int (h : Int))), none]) := by
    rw [evS]; exact e1
  have w2 : evS (evF T fu n) fu (.whl cR2 bR2) [some (.val (.int (N : Int))), some (.val (.int 0)), some (.val (.int (h : Int))), none] = some (.nx, [some (.val (.int (N : Int))), some (.val (.int (l : Int))), some (.val (.int (h' : Int))), f3]) := by
    rw [evS]; exact e2
  rw [ev1 (dd := d__law_root) (by kernel_rfl)]
  unfold d__law_root
  obtain ⟨W1, hW1⟩ : ∃ W, W = Sm.whl cR1 bR1 := ⟨_, rfl⟩
  obtain ⟨W2, hW2⟩ : ∃ W, W = Sm.whl cR2 bR2 := ⟨_, rfl⟩
  rw [← hW1] at w1
  rw [← hW2] at w2
  unfold cR1 bR1 at hW1
  unfold cR2 bR2 at hW2
  rw [← hW1, ← hW2]
  clear hW1 hW2 e1 e2
  generalize (N : Int) = NN at *
  generalize (h : Int) = hh at *
  generalize (l : Int) = ll at *
  generalize (h' : Int) = hh' at *
  simp [evE, evT, evL, evA, evO, evAr, evS, evD, putS, peek, mutS, setM, opB, opC, opF, opIx, opSl, walk, unpS, bindT, refs, argS, putBack, permA, outsOf, atI, ixN, tru, setJ, w1, w2, show 2 ≤ lim by decide]
theorem nonneg_norm {l k : Nat} (hk : k ≠ 0) : 0 ≤ Rat.normalize (l : Int) k hk := by
  rw [Rat.normalize_eq_mkRat, Rat.mkRat_eq_div]
  refine div_ge ?_ ?_
  · exact Rat.intCast_nonneg.2 (Int.natCast_nonneg l)
  · have : (0 : Rat) < ((k : Nat) : Rat) := Rat.natCast_pos.2 (Nat.pos_of_ne_zero hk)
    exact this
/-- a wished own time -/
theorem s_wished {fu n e : Nat} {own p1 p2 : Int} (h : Pot e own p1 p2) (he : e < 1000000) (q : Ask a b c d m) (hf : 8001 ≤ fu) :
    ∃ own' p2' τ, Pot (e + 1) own' p1 p2' ∧ (Bq 260 τ ∧ 0 ≤ τ) ∧ evF T fu (n + 4) "_law_wished" [pot own p1 p2, .val (fr (leastW (c - a) (d - b) m)), .val (fr ((c - a) * (d - b)))] = some (fr τ, [potO own' p1 p2']) := by
  obtain ⟨w, hw⟩ : ∃ w, w = leastW (c - a) (d - b) m := ⟨_, rfl⟩
  obtain ⟨s, hs⟩ : ∃ s, s = (c - a) * (d - b) := ⟨_, rfl⟩
  have bw : Bq 152 w := hw ▸ q.least
  have w0 : 0 ≤ w := hw ▸ q.l0
  have bs : Bq 144 s := hs ▸ q.sq
  have s0 : 0 ≤ s := hs ▸ Rat.mul_nonneg q.u0 q.v0
  rw [← hw, ← hs]
  have f17 : D.tup [.int 1, .int 7] = fr (1 / 7) := fr_mk (by decide +kernel) (by decide +kernel)
  have f910 : D.tup [.int 9, .int 10] = fr (9 / 10) := fr_mk (by decide +kernel) (by decide +kernel)
  have f2 : D.tup [.int 2, .int 1] = fr 2 := rfl
  have f40 : D.tup [.int 40, .int 1] = fr 40 := rfl
  have b17 : Bq 3 (1 / 7 : Rat) := ⟨by decide +kernel, by decide +kernel⟩
  have b910 : Bq 4 (9 / 10 : Rat) := ⟨by decide +kernel, by decide +kernel⟩
  have b2 : Bq 2 (2 : Rat) := ⟨by decide +kernel, by decide +kernel⟩
  have b40 : Bq 6 (40 : Rat) := ⟨by decide +kernel, by decide +kernel⟩
  have m1 := s_lplus (fu := fu) (n := n) (bw.le (by decide : 152 ≤ 1900)) (b17.le (by decide : 3 ≤ 1900)) hf
  have m2 := s_ltimes (fu := fu) (n := n) (bw.le (by decide : 152 ≤ 1900)) (b910.le (by decide : 4 ≤ 1900)) hf
  have N0 : 0 ≤ s.num := Rat.num_nonneg.2 s0
  obtain ⟨sn, hsn⟩ : ∃ sn : Nat, s.num = (sn : Int) := ⟨s.num.toNat, by omega⟩
  have snb : sn < 2 ^ 144 := by have := bs.n; rw [hsn, Int.natAbs_natCast] at this; exact this
  obtain ⟨l, lb, rt⟩ := s_root (fu := fu) (n := n + 2) (N := sn * 10 ^ 6 / s.den) (Nat.lt_of_le_of_lt (Nat.div_le_self _ _) (by omega)) hf
  have pw : opB .pow (.int 10) (.int 6) = some (.int (10 ^ 6)) := by
    show (if sm 10 && decide ((0 : Int) ≤ 6) && decide ((6 : Int) ≤ 1000) then some (D.int (10 ^ (6 : Int).toNat)) else none) = _
    rw [if_pos (by decide +kernel)]; rfl
  have s1 := wm (s.num) 144 bs.n (by decide)
  have s6 := wm (10 ^ 6 : Int) 30 (by decide) (by decide)
  have mu : opB .mul (.int s.num) (.int (10 ^ 6)) = some (.int ((sn * 10 ^ 6 : Nat) : Int)) := by
    show (if sm s.num && sm (10 ^ 6) then some (D.int (s.num * 10 ^ 6)) else none) = _
    rw [s1, s6]
    show some (D.int (s.num * 10 ^ 6)) = _
    rw [hsn, Int.natCast_mul]; rfl
  have sd := bs.sd (by decide : 144 ≤ 8000)
  have dv : opB .div (.int ((sn * 10 ^ 6 : Nat) : Int)) (.int (s.den : Int)) = some (.int ((sn * 10 ^ 6 / s.den : Nat) : Int)) := by
    have dn : (s.den : Int) ≠ 0 := by have := s.den_pos; omega
    show (if sm (s.den : Int) && decide ((s.den : Int) ≠ 0) then some (D.int (((sn * 10 ^ 6 : Nat) : Int).fdiv (s.den : Int))) else none) = _
    rw [sd, decide_eq_true dn]
    show some (D.int (((sn * 10 ^ 6 : Nat) : Int).fdiv (s.den : Int))) = _
    congr 2
    rw [Int.fdiv_eq_ediv_of_nonneg _ (Int.natCast_nonneg _), Int.natCast_ediv]
  have lr := s_lfrac (fu := fu) (n := n + 1) (a := (l : Int)) (b := 1000) (by decide) (Nat.lt_of_lt_of_le (show 1000 < 2 ^ 10 by decide) (Nat.pow_le_pow_right (by decide) (by decide))) hf
  obtain ⟨r, hr⟩ : ∃ r, r = Rat.normalize (l : Int) 1000 (by decide) := ⟨_, rfl⟩
  have br : Bq 100 r := by rw [hr]; exact norm_bd (by decide) (by rw [Int.natAbs_natCast]; exact lb) (by decide)
  have r0 : 0 ≤ r := by rw [hr]; exact nonneg_norm (by decide)
  rw [← hr, show ((1000 : Nat) : Int) = 1000 from rfl] at lr
  have m3 := s_lplus (fu := fu) (n := n) (bw.le (by decide : 152 ≤ 1900)) (br.le (by decide : 100 ≤ 1900)) hf
  have m4 := s_lover (fu := fu) (n := n) ((bw.add br).le (by decide : 152 + 100 + 1 ≤ 1900)) (b2.le (by decide : 2 ≤ 1900)) (by decide) hf
  have m5 := s_ltimes (fu := fu) (n := n) (bw.le (by decide : 152 ≤ 1900)) (b2.le (by decide : 2 ≤ 1900)) hf
  have m6 := s_lplus (fu := fu) (n := n) ((bw.mul b2).le (by decide : 152 + 2 ≤ 1900)) (b40.le (by decide : 6 ≤ 1900)) hf
  obtain ⟨o, r', x, hp, hx, e1⟩ := s_of (fu := fu) (n := n + 1) (xs := [fr w, fr (w + 1 / 7), fr (w * (9 / 10)), fr r, fr ((w + r) / 2), fr (w * 2 + 40), fr r, fr ((w + r) / 2)]) h he (by simp [evE, evT, evL, evA, evO, evAr, evS, evD, putS, peek, mutS, setM, opB, opC, opF, opIx, opSl, walk, unpS, bindT, refs, argS, putBack, permA, outsOf, atI, ixN, tru, setJ]) (by simp [evE, evT, evL, evA, evO, evAr, evS, evD, putS, peek, mutS, setM, opB, opC, opF, opIx, opSl, walk, unpS, bindT, refs, argS, putBack, permA, outsOf, atI, ixN, tru, setJ])
  have wr : 0 ≤ (w + r) / 2 := div_ge (by grind) (by decide)
  have bwr : Bq 260 ((w + r) / 2) := ((bw.add br).div b2 (by decide)).le (by decide)
  have key : ∃ τ, x = fr τ ∧ Bq 260 τ ∧ 0 ≤ τ := by
    simp [evE, evT, evL, evA, evO, evAr, evS, evD, putS, peek, mutS, setM, opB, opC, opF, opIx, opSl, walk, unpS, bindT, refs, argS, putBack, permA, outsOf, atI, ixN, tru, setJ] at hx
    rcases hx with rfl | rfl | rfl | rfl | rfl | rfl | rfl | rfl
    all_goals first
      | exact ⟨_, rfl, bw.le (by decide), w0⟩
      | exact ⟨_, rfl, (bw.add b17).le (by decide), by grind⟩
      | exact ⟨_, rfl, (bw.mul b910).le (by decide), by grind⟩
      | exact ⟨_, rfl, br.le (by decide), r0⟩
      | exact ⟨_, rfl, bwr, wr⟩
      | exact ⟨_, rfl, ((bw.mul b2).add b40).le (by decide), by grind⟩
  obtain ⟨τ, rfl, hτ⟩ := key
  refine ⟨o, r', τ, hp, hτ, ?_⟩
  have i0 := ix0 (q := s)
  have i1 := ix1 (q := s)
  rw [← f17] at m1
  rw [← f910] at m2
  rw [← f2] at m4 m5
  rw [← f40] at m6
  have l1 : opIx (.lst [fr w, fr (w + 1 / 7), fr (w * (9 / 10)), fr r]) (.int (-1)) = some (fr r) := rfl
  have sl : opSl (.lst [fr w, fr (w + 1 / 7), fr (w * (9 / 10)), fr r, fr ((w + r) / 2), fr (w * 2 + 40)]) (some 3) (some 5) = some (.lst [fr r, fr ((w + r) / 2)]) := rfl
  have ad : opB .add (.lst [fr w, fr (w + 1 / 7), fr (w * (9 / 10)), fr r, fr ((w + r) / 2), fr (w * 2 + 40)]) (.lst [fr r, fr ((w + r) / 2)]) = some (.lst [fr w, fr (w + 1 / 7), fr (w * (9 / 10)), fr r, fr ((w + r) / 2), fr (w * 2 + 40), fr r, fr ((w + r) / 2)]) := by
    show (if [fr w, fr (w + 1 / 7), fr (w * (9 / 10)), fr r, fr ((w + r) / 2), fr (w * 2 + 40)].length + [fr r, fr ((w + r) / 2)].length ≤ lim then _ else none) = _
    rw [if_pos (by simp only [List.length_cons, List.length_nil]; decide +kernel)]; rfl
  rw [ev1 (dd := d__law_wished) (by kernel_rfl)]
  unfold d__law_wished
  clear f17 f910 f2 f40 hw hs hr hτ hp
  generalize fr (w + 1 / 7) = x1 at *
  generalize fr (w * (9 / 10)) = x2 at *
  generalize fr ((w + r) / 2) = x4 at *
  generalize fr (w + r) = x5 at *
  generalize fr (w * 2 + 40) = x6 at *
  generalize fr (w * 2) = x7 at *
  generalize fr r = x8 at *
  generalize fr w = x9 at *
  generalize fr τ = x10 at *
  generalize fr s = x11 at *
  generalize ((sn * 10 ^ 6 / s.den : Nat) : Int) = y1 at *
  generalize ((sn * 10 ^ 6 : Nat) : Int) = y2 at *
  generalize s.num = y3 at *
  generalize (s.den : Int) = y4 at *
  generalize (l : Int) = y5 at *
  obtain ⟨E, hE⟩ : ∃ E : Int, E = 10 ^ 6 := ⟨_, rfl⟩
  rw [← hE] at pw mu
  clear hE
  unfold pot potO at *
  simp [evE, evT, evL, evA, evO, evAr, evS, evD, putS, peek, mutS, setM, opC, opF, walk, unpS, bindT, refs, argS, putBack, permA, outsOf, atI, ixN, tru, setJ, i0, i1, pw, mu, dv, rt, lr, m1, m2, m3, m4, m5, m6, l1, sl, ad, e1, show 3 ≤ lim by decide, show 3 < lim by decide, show 4 < lim by decide, show 5 < lim by decide, show 2 ≤ lim by decide]
end L09

namespace L09
open PySem L2 Mn TL
variable {a b c d m : Rat}
theorem lis_wf {fu n : Nat} {x : PySem.Str} {q : Rat} : evF T fu (n + 3) "_law_is" [.val (.tup [.str x, fr q]), .val (.tup [.str x, fr q])] = some (.bl true, []) := by
  refine s_lis_tup (n := n + 1) (by simp [evE, evT, evL, evA, evO, evAr, evS, evD, putS, peek, mutS, setM, opB, opC, opF, opIx, opSl, walk, unpS, bindT, refs, argS, putBack, permA, outsOf, atI, ixN, tru, setJ]) (by
    intro y hy
    simp [evE, evT, evL, evA, evO, evAr, evS, evD, putS, peek, mutS, setM, opB, opC, opF, opIx, opSl, walk, unpS, bindT, refs, argS, putBack, permA, outsOf, atI, ixN, tru, setJ] at hy
    rcases hy with rfl | rfl
    · exact s_lis_str (n := n + 1)
    · exact s_lis (fu := fu) 1 n (fr q) Pl.fr)
theorem s_wish {fu n : Nat} (q : Ask a b c d m) {τ : Rat} (hT : Bq 260 τ) (t0 : 0 ≤ τ) (hf : 8001 ≤ fu) : evF T fu (n + 10) "_law_is_wish_right" [.val (ev a b), .val (ev c d), .val (fr m), .val (fr τ), .val (fr (leastW (c - a) (d - b) m)), .val (fr ((c - a) * (d - b)))] = some (.bl true, []) := by
  have o := s_own (fu := fu) (n := n + 1) q hT t0
  have sh := s_shows (fu := fu) (n := n) q hT t0
  have l1 := s_lisless (fu := fu) (n := n + 8) (hT.le (by decide : 260 ≤ 3000)) (q.least.le (by decide : 152 ≤ 3000))
  have m3 := s_ltimes (fu := fu) (n := n + 6) (hT.le (by decide : 260 ≤ 1900)) (hT.le (by decide : 260 ≤ 1900)) hf
  have l2 := s_lisless (fu := fu) (n := n + 8) (q.sq.le (by decide : 144 ≤ 3000)) ((hT.mul hT).le (by decide : 260 + 260 ≤ 3000))
  have isn : opC .isn (.bl true) (.bl true) = some false := by decide +kernel
  rw [ev1 (dd := d__law_is_wish_right) (by kernel_rfl)]
  unfold d__law_is_wish_right
  unfold toldD at o sh
  by_cases h1 : τ < leastW (c - a) (d - b) m
  · rw [decide_eq_true h1] at l1
    rw [if_pos h1] at o sh
    have li := lis_wf (fu := fu) (n := n + 6) (x := "less") (q := leastW (c - a) (d - b) m)
    have k1 := kt (xs := [.str "less", fr (leastW (c - a) (d - b) m)])
    have ti : opF (.isi "tuple") [.tup [.str "less", fr (leastW (c - a) (d - b) m)]] = some (.bl true) := by simp [evE, evT, evL, evA, evO, evAr, evS, evD, putS, peek, mutS, setM, opB, opC, opF, opIx, opSl, walk, unpS, bindT, refs, argS, putBack, permA, outsOf, atI, ixN, tru, setJ, k1]
    generalize fr (leastW (c - a) (d - b) m) = y1 at *
    generalize fr ((c - a) * (d - b)) = y2 at *
    generalize ev a b = z1 at *
    generalize ev c d = z2 at *
    generalize fr m = z3 at *
    generalize fr τ = t at *
    simp [evE, evT, evL, evA, evO, evAr, evS, evD, putS, peek, mutS, setM, opB, opIx, opSl, walk, unpS, bindT, refs, argS, putBack, permA, outsOf, atI, ixN, tru, setJ, o, sh, l1, isn, li, ti, show 2 ≤ lim by decide]
  · rw [decide_eq_false h1] at l1
    rw [if_neg h1] at o sh
    by_cases h2 : (c - a) * (d - b) < τ * τ
    · rw [decide_eq_true h2] at l2
      rw [if_pos h2] at o sh
      have li := lis_wf (fu := fu) (n := n + 6) (x := "more") (q := (c - a) * (d - b))
      have k1 := kt (xs := [.str "more", fr ((c - a) * (d - b))])
      have ti : opF (.isi "tuple") [.tup [.str "more", fr ((c - a) * (d - b))]] = some (.bl true) := by simp [evE, evT, evL, evA, evO, evAr, evS, evD, putS, peek, mutS, setM, opB, opC, opF, opIx, opSl, walk, unpS, bindT, refs, argS, putBack, permA, outsOf, atI, ixN, tru, setJ, k1]
      generalize fr (leastW (c - a) (d - b) m) = y1 at *
      generalize fr ((c - a) * (d - b)) = y2 at *
      generalize fr (τ * τ) = y3 at *
      generalize ev a b = z1 at *
      generalize ev c d = z2 at *
      generalize fr m = z3 at *
      generalize fr τ = t at *
      simp [evE, evT, evL, evA, evO, evAr, evS, evD, putS, peek, mutS, setM, opB, opIx, opSl, walk, unpS, bindT, refs, argS, putBack, permA, outsOf, atI, ixN, tru, setJ, o, sh, l1, l2, m3, isn, li, ti, show 2 ≤ lim by decide]
    · rw [decide_eq_false h2] at l2
      rw [if_neg h2] at o sh
      have shp := q.shp hT t0 (by grind) (by grind)
      have pl := (shp.pc q).2
      have ld := s_lleads (fu := fu) (n := n + 4) q shp hf
      have su := s_lsum2 (fu := fu) (n := n + 5) q shp hf
      have li := s_lis_str (fu := fu) (n := n + 8) (x := "plan")
      clear shp
      generalize PW (c - a) (d - b) m τ = ps at *
      have k1 := kt (xs := [.str "plan", .tup (ps.map pwD)])
      have ti : opF (.isi "tuple") [.tup [.str "plan", .tup (ps.map pwD)]] = some (.bl true) := by simp [evE, evT, evL, evA, evO, evAr, evS, evD, putS, peek, mutS, setM, opB, opC, opF, opIx, opSl, walk, unpS, bindT, refs, argS, putBack, permA, outsOf, atI, ixN, tru, setJ, k1]
      have lf : opF .len [.tup [.str "plan", .tup (ps.map pwD)]] = some (.int 2) := rfl
      have ne : opC .ne (.int 2) (.int 2) = some false := by decide +kernel
      have x0 : opIx (.tup [.str "plan", .tup (ps.map pwD)]) (.int 0) = some (.str "plan") := ixt0
      have x1 : opIx (.tup [.str "plan", .tup (ps.map pwD)]) (.int 1) = some (.tup (ps.map pwD)) := ixt1
      have lf2 : opF .len [.tup (ps.map pwD)] = some (.int (ps.length : Int)) := by
        show some (D.int ((ps.map pwD).length : Int)) = _
        rw [List.length_map]
      have lt : opC .lt (.int (ps.length : Int)) (.int 3) = some true := by
        show some (decide ((ps.length : Int) < 3)) = _
        rw [decide_eq_true (by omega)]
      have eqt : opC .eq (fr τ) (fr τ) = some true := by simp [evE, evT, evL, evA, evO, evAr, evS, evD, putS, peek, mutS, setM, opB, opC, opF, opIx, opSl, walk, unpS, bindT, refs, argS, putBack, permA, outsOf, atI, ixN, tru, setJ, dsh_fr, deq_fr]
      obtain ⟨TD, hTD⟩ : ∃ t : D, t = .tup [.str "plan", .tup (ps.map pwD)] := ⟨_, rfl⟩
      have key := compL_filter (el := fun e => evE (evF T fu (n + 9)) (.ix (.var 7) (.con (.int 1))) e) (cd := fun e => evT (evF T fu (n + 9)) .tyes e) (tg := .one 7) (own := [7]) (env := [some (.val (ev a b)), some (.val (ev c d)), some (.val (fr m)), some (.val (fr τ)), some (.val (fr (leastW (c - a) (d - b) m))), some (.val (fr ((c - a) * (d - b)))), some (.val TD), none]) (f := pwD) (g := fun z => fr z.2) (b := fun _ => true) (its := ps) (by
        intro z hz
        have y1 : opIx (pwD z) (.int 1) = some (fr z.2) := ixt1
        refine ⟨[some (.val (ev a b)), some (.val (ev c d)), some (.val (fr m)), some (.val (fr τ)), some (.val (fr (leastW (c - a) (d - b) m))), some (.val (fr ((c - a) * (d - b)))), some (.val TD), some (.val (pwD z))], rfl, rfl, ?_, rfl⟩
        generalize pwD z = zz at *
        generalize fr z.2 = z2 at *
        generalize ev a b = q1
        generalize ev c d = q2
        generalize fr m = q3
        generalize fr τ = q4
        generalize fr (leastW (c - a) (d - b) m) = q5
        generalize fr ((c - a) * (d - b)) = q6
        show evE (evF T fu (n + 9)) (.ix (.var 7) (.con (.int 1))) [some (.val q1), some (.val q2), some (.val q3), some (.val q4), some (.val q5), some (.val q6), some (.val TD), some (.val zz)] = some (z2, [some (.val q1), some (.val q2), some (.val q3), some (.val q4), some (.val q5), some (.val q6), some (.val TD), some (.val zz)])
        simp [evE, evT, evL, evA, evO, evAr, evS, evD, putS, peek, mutS, setM, opB, opC, opF, opSl, walk, unpS, bindT, refs, argS, putBack, permA, outsOf, atI, ixN, tru, setJ, y1])
      rw [List.filter_eq_self.2 (fun _ _ => rfl)] at key
      rw [← hTD] at o sh ti lf x0 x1
      clear hTD
      obtain ⟨CC, hCC⟩ : ∃ C, C = Ex.comp .seq (.cons (.ix (.var 6) (.con (.int 1))) .nil) (.one 7) .tyes (.ix (.var 7) (.con (.int 1))) [7] := ⟨_, rfl⟩
      have c3 : evE (evF T fu (n + 9)) CC [some (.val (ev a b)), some (.val (ev c d)), some (.val (fr m)), some (.val (fr τ)), some (.val (fr (leastW (c - a) (d - b) m))), some (.val (fr ((c - a) * (d - b)))), some (.val TD), none] = some (.lst (ps.map fun z => fr z.2), [some (.val (ev a b)), some (.val (ev c d)), some (.val (fr m)), some (.val (fr τ)), some (.val (fr (leastW (c - a) (d - b) m))), some (.val (fr ((c - a) * (d - b)))), some (.val TD), none]) := by
        rw [hCC, evE]
        rw [show evL (evF T fu (n + 9)) (.cons (.ix (.var 6) (.con (.int 1))) .nil) [some (.val (ev a b)), some (.val (ev c d)), some (.val (fr m)), some (.val (fr τ)), some (.val (fr (leastW (c - a) (d - b) m))), some (.val (fr ((c - a) * (d - b)))), some (.val TD), none] = some ([.tup (ps.map pwD)], [some (.val (ev a b)), some (.val (ev c d)), some (.val (fr m)), some (.val (fr τ)), some (.val (fr (leastW (c - a) (d - b) m))), some (.val (fr ((c - a) * (d - b)))), some (.val TD), none]) by simp [evE, evT, evL, evA, evO, evAr, evS, evD, putS, peek, mutS, setM, opB, opC, opF, opSl, walk, unpS, bindT, refs, argS, putBack, permA, outsOf, atI, ixN, tru, setJ, x1]]
        simp only [Option.bind_eq_bind, Option.bind_some, show walk .seq [.tup (ps.map pwD)] = some (ps.map pwD) from rfl]
        rw [if_pos (by rw [Bool.and_eq_true]; exact ⟨by rw [List.length_map, decide_eq_true_eq]; unfold lim; omega, rfl⟩), key]
        rfl
      rw [← hCC]
      clear hCC key k1
      generalize (ps.map fun z => fr z.2) = QQ at *
      generalize D.tup (ps.map pwD) = PP at *
      generalize (ps.length : Int) = pn at *
      generalize fr (leastW (c - a) (d - b) m) = y1 at *
      generalize fr ((c - a) * (d - b)) = y2 at *
      generalize fr (τ * τ) = y3 at *
      generalize ev a b = z1 at *
      generalize ev c d = z2 at *
      generalize fr m = z3 at *
      generalize fr τ = t at *
      simp [evE, evT, evL, evA, evO, evAr, evS, evD, putS, peek, mutS, setM, opB, opSl, walk, unpS, bindT, refs, argS, putBack, permA, outsOf, atI, ixN, tru, setJ, o, sh, l1, l2, m3, isn, li, ti, lf, ne, x0, x1, ld, lf2, lt, c3, su, eqt, show 2 ≤ lim by decide]
def isPl : Wd → Bool | .plan => true | _ => false
theorem isPl_iff {w : Wd} : isPl w = true ↔ w = .plan := by cases w <;> simp [evE, evT, evL, evA, evO, evAr, evS, evD, putS, peek, mutS, setM, opB, opC, opF, opIx, opSl, walk, unpS, bindT, refs, argS, putBack, permA, outsOf, atI, ixN, tru, setJ, isPl]
theorem due_eq (w : Wd) : opC .eq (dueD w) (.tup [.str "plan"]) = some (isPl w) := by cases w <;> decide +kernel
theorem due_ne (w : Wd) : opC .ne (dueD w) (.tup [.str "plan"]) = some (!isPl w) := by cases w <;> decide +kernel
def bE : Sm := (.seq (.iff (.tval (.cmp .eq (.call "_law_within_word" [0, 1, 2] (.cons (.tval (.var 3)) (.cons (.tval (.var 4)) (.cons (.tval (.var 5)) .nil)))) (.tup (.cons (.con (.str "plan")) .nil)))) (.seq .brk .nil) .nil) (.seq (.unp [3, 4, 5] (.call "_law_within_ends" [0] (.cons (.ref 0) .nil))) .nil))
theorem end_loop {fu n : Nat} {p1 : Int} (hf : 8001 ≤ fu) : ∀ (its : List D) (e : Nat) (own p2 : Int) (a b c d m : Rat) (e1 : Option Sl), Pot e own p1 p2 → e + 40 * its.length + 100 < 1000000 → Be 11 a b → Be 60 c d → Bq 3 m → 1 ≤ m → Fre e1 →
    ∃ own' p2' a' b' c' d' m' f1, Pot (e + 40 * its.length) own' p1 p2' ∧ Be 11 a' b' ∧ Be 60 c' d' ∧ Bq 3 m' ∧ 1 ≤ m' ∧ Fre f1 ∧ forL (.one 1) (fun x => evS (evF T fu (n + 10)) fu bE x) its [some (pot own p1 p2), e1, none, some (.val (ev a b)), some (.val (ev c d)), some (.val (fr m)), none, none] = some (.nx, [some (pot own' p1 p2'), f1, none, some (.val (ev a' b')), some (.val (ev c' d')), some (.val (fr m')), none, none])
  | [], e, own, p2, a, b, c, d, m, e1, h, _, ha, hc, hk, hm, h1 => ⟨own, p2, a, b, c, d, m, e1, h, ha, hc, hk, hm, h1, rfl⟩
  | x :: its, e, own, p2, a, b, c, d, m, e1, h, he, ha, hc, hk, hm, h1 => by
    rw [List.length_cons] at he
    have w := s_word (fu := fu) (n := n + 5) (ha.le (by decide : 11 ≤ 140)) (hc.le (by decide : 60 ≤ 140)) (hk.le (by decide : 3 ≤ 10)) hm hf
    have eq := due_eq (wOf (c - a) (d - b) m)
    have b1 : bindT (.one 1) x [some (pot own p1 p2), e1, none, some (.val (ev a b)), some (.val (ev c d)), some (.val (fr m)), none, none] = some [some (pot own p1 p2), some (.val x), none, some (.val (ev a b)), some (.val (ev c d)), some (.val (fr m)), none, none] := by
      rcases h1 with rfl | ⟨z, rfl⟩ <;> rfl
    cases hw : isPl (wOf (c - a) (d - b) m) with
    | true =>
      rw [hw] at eq
      have step : evS (evF T fu (n + 10)) fu bE [some (pot own p1 p2), some (.val x), none, some (.val (ev a b)), some (.val (ev c d)), some (.val (fr m)), none, none] = some (.bk, [some (pot own p1 p2), some (.val x), none, some (.val (ev a b)), some (.val (ev c d)), some (.val (fr m)), none, none]) := by
        unfold bE
        generalize dueD (wOf (c - a) (d - b) m) = dd at *
        generalize ev a b = z1 at *
        generalize ev c d = z2 at *
        generalize fr m = z3 at *
        simp [evE, evT, evL, evA, evO, evAr, evS, evD, putS, peek, mutS, setM, opB, opF, opIx, opSl, walk, unpS, bindT, refs, argS, putBack, permA, outsOf, atI, ixN, tru, setJ, w, eq, show 1 ≤ lim by decide]
      refine ⟨own, p2, a, b, c, d, m, some (.val x), h.le (by omega), ha, hc, hk, hm, .inr ⟨_, rfl⟩, ?_⟩
      unfold forL
      simp only [b1, step, Option.bind_some, Option.bind_eq_bind]
    | false =>
      rw [hw] at eq
      obtain ⟨o1, r1, a2, b2, c2, d2, m2, hp1, ha2, hc2, ⟨hk2, hm2⟩, t1⟩ := s_wends (fu := fu) (n := n + 5) h (by omega) hf
      have step : evS (evF T fu (n + 10)) fu bE [some (pot own p1 p2), some (.val x), none, some (.val (ev a b)), some (.val (ev c d)), some (.val (fr m)), none, none] = some (.nx, [some (pot o1 p1 r1), some (.val x), none, some (.val (ev a2 b2)), some (.val (ev c2 d2)), some (.val (fr m2)), none, none]) := by
        unfold bE
        generalize dueD (wOf (c - a) (d - b) m) = dd at *
        generalize ev a b = z1 at *
        generalize ev c d = z2 at *
        generalize fr m = z3 at *
        generalize ev a2 b2 = z4 at *
        generalize ev c2 d2 = z5 at *
        generalize fr m2 = z6 at *
        unfold pot potO at *
        simp [evE, evT, evL, evA, evO, evAr, evS, evD, putS, peek, mutS, setM, opB, opF, opIx, opSl, walk, unpS, bindT, refs, argS, putBack, permA, outsOf, atI, ixN, tru, setJ, w, eq, t1, show 1 ≤ lim by decide]
      obtain ⟨o2, r2, a3, b3, c3, d3, m3, f1, hp2, ha3, hc3, hk3, hm3, g1, ih⟩ := end_loop (fu := fu) (n := n) hf its (e + 40) o1 r1 a2 b2 c2 d2 m2 (some (.val x)) (hp1.le (by omega)) (by omega) ha2 hc2 hk2 hm2 (.inr ⟨_, rfl⟩)
      refine ⟨o2, r2, a3, b3, c3, d3, m3, f1, by rw [List.length_cons]; exact hp2.le (by omega), ha3, hc3, hk3, hm3, g1, ?_⟩
      unfold forL
      simp only [b1, step, Option.bind_some, Option.bind_eq_bind]
      exact ih
theorem s_right {fu n : Nat} {own p1 : Int} (h : Pot 0 own p1 0) (hf : 8001 ≤ fu) : ∃ ys, evF T fu (n + 11) "_law_right" [.par (potO own p1 0)] = some (.bl true, [ys]) := by
  obtain ⟨o1, r1, a0, b0, c0, d0, m0, hp1, ha0, hc0, ⟨hk0, hm0⟩, t1⟩ := s_wends (fu := fu) (n := n + 5) h (by omega) hf
  obtain ⟨o2, r2, a, b, c, d, m, f1, hp2, ha, hc, hk, hm, g1, lp⟩ := end_loop (fu := fu) (n := n) hf (ran 4) 30 o1 r1 a0 b0 c0 d0 m0 none (hp1.le (by omega)) (by decide) ha0 hc0 hk0 hm0 (.inl rfl)
  have hp2 : Pot 200 o2 p1 r2 := hp2.le (by decide)
  have wk : walk .rng [.int 4] = some (ran 4) := by
    show (if wi 19 4 then some (ran (4 : Int).toNat) else none) = _
    rw [if_pos (by decide +kernel)]; rfl
  have w := s_word (fu := fu) (n := n + 5) (ha.le (by decide : 11 ≤ 140)) (hc.le (by decide : 60 ≤ 140)) (hk.le (by decide : 3 ≤ 10)) hm hf
  have ne := due_ne (wOf (c - a) (d - b) m)
  have f0 : evS (evF T fu (n + 10)) fu (.for_ .rng (.cons (.con (.int 4)) .nil) (.one 1) bE) [some (pot o1 p1 r1), none, none, some (.val (ev a0 b0)), some (.val (ev c0 d0)), some (.val (fr m0)), none, none] = some (.nx, [some (pot o2 p1 r2), f1, none, some (.val (ev a b)), some (.val (ev c d)), some (.val (fr m)), none, none]) := by
    rw [evS]
    simp only [evL, evE, Option.bind_eq_bind, Option.bind_some, wk]
    rw [if_pos (by decide +kernel)]
    exact lp
  obtain ⟨Z, hZ⟩ : ∃ Z, Z = (Sm.for_ .rng (.cons (.con (.int 4)) .nil) (.one 1) bE) := ⟨_, rfl⟩
  rw [← hZ] at f0
  unfold bE at hZ
  cases hw : isPl (wOf (c - a) (d - b) m) with
  | false =>
    rw [hw] at ne
    refine ⟨potO o2 p1 r2, ?_⟩
    rw [ev1 (dd := d__law_right) (by kernel_rfl)]
    unfold d__law_right
    rw [← hZ]
    clear hZ lp
    generalize dueD (wOf (c - a) (d - b) m) = dd at *
    generalize ev a b = z1 at *
    generalize ev c d = z2 at *
    generalize fr m = z3 at *
    generalize ev a0 b0 = z4 at *
    generalize ev c0 d0 = z5 at *
    generalize fr m0 = z6 at *
    unfold pot potO at *
    rcases g1 with rfl | ⟨z, rfl⟩ <;> simp [evE, evT, evL, evA, evO, evAr, evS, evD, putS, peek, mutS, setM, opB, opF, opIx, opSl, unpS, bindT, refs, argS, putBack, permA, outsOf, atI, ixN, tru, setJ, t1, f0, w, ne, show 1 ≤ lim by decide]
  | true =>
    rw [hw] at ne
    have q : Ask a b c d m := ⟨ha, hc, hk, hm, isPl_iff.1 hw⟩
    have mo := s_more (fu := fu) (n := n + 6) (ha.le (by decide : 11 ≤ 1900)) (hc.le (by decide : 60 ≤ 1900)) hf
    have le := s_lleast (fu := fu) (n := n + 5) q hf
    have ti := s_ltimes (fu := fu) (n := n + 7) (q.u.le (by decide : 72 ≤ 1900)) (q.v.le (by decide : 72 ≤ 1900)) hf
    have i0 : opIx (ev (c - a) (d - b)) (.int 0) = some (fr (c - a)) := ixt0
    have i1 : opIx (ev (c - a) (d - b)) (.int 1) = some (fr (d - b)) := ixt1
    obtain ⟨o3, r3, x1, hp3, ⟨hx1, y1⟩, w1⟩ := s_wished (fu := fu) (n := n + 6) hp2 (by omega) q hf
    obtain ⟨o4, r4, x2, hp4, ⟨hx2, y2⟩, w2⟩ := s_wished (fu := fu) (n := n + 6) hp3 (by omega) q hf
    obtain ⟨o5, r5, x3, hp5, ⟨hx3, y3⟩, w3⟩ := s_wished (fu := fu) (n := n + 6) hp4 (by omega) q hf
    obtain ⟨o6, r6, x4, hp6, ⟨hx4, y4⟩, w4⟩ := s_wished (fu := fu) (n := n + 6) hp5 (by omega) q hf
    have v1 := s_wish (fu := fu) (n := n) q hx1 y1 hf
    have v2 := s_wish (fu := fu) (n := n) q hx2 y2 hf
    have v3 := s_wish (fu := fu) (n := n) q hx3 y3 hf
    have v4 := s_wish (fu := fu) (n := n) q hx4 y4 hf
    have wk4 : walk .rng [.int 4] = some [.int 0, .int 1, .int 2, .int 3] := wk
    have al : opF .all [.lst [.bl true, .bl true, .bl true, .bl true]] = some (.bl true) := rfl
    refine ⟨potO o6 p1 r6, ?_⟩
    rw [ev1 (dd := d__law_right) (by kernel_rfl)]
    unfold d__law_right
    rw [← hZ]
    clear hZ lp wk
    generalize dueD (wOf (c - a) (d - b) m) = dd at *
    generalize fr (leastW (c - a) (d - b) m) = z7 at *
    generalize fr ((c - a) * (d - b)) = z8 at *
    generalize ev (c - a) (d - b) = z9 at *
    generalize fr (c - a) = z10 at *
    generalize fr (d - b) = z11 at *
    generalize ev a b = z1 at *
    generalize ev c d = z2 at *
    generalize fr m = z3 at *
    generalize ev a0 b0 = z4 at *
    generalize ev c0 d0 = z5 at *
    generalize fr m0 = z6 at *
    generalize fr x1 = z12 at *
    generalize fr x2 = z13 at *
    generalize fr x3 = z14 at *
    generalize fr x4 = z15 at *
    unfold pot potO at *
    rcases g1 with rfl | ⟨z, rfl⟩ <;> simp [evE, evT, evL, evA, evO, evAr, evS, evD, putS, peek, mutS, setM, opB, opSl, unpS, bindT, refs, argS, putBack, permA, outsOf, atI, ixN, tru, setJ, t1, f0, w, ne, mo, le, ti, i0, i1, w1, w2, w3, w4, v1, v2, v3, v4, wk4, al, compL, wipeE, backE, show 1 ≤ lim by decide, show 2 ≤ lim by decide, show 4 ≤ lim by decide]
theorem math (ns : List Int) (hl : ns.length ≤ 63) : evF T 100000 12 "law" [.val (.scr ns)] = some (.bl true, []) := by
  obtain ⟨m, hm, ec⟩ := s_cells (fu := 100000) (n := 10) hl
  have cell : ∀ i : Nat, i < 1000 → ∃ own p1 ys, evF T 100000 11 "_law_pot" [.val (.scr ns), .val (.int i)] = some (.lst (potO own p1 0), []) ∧ evF T 100000 11 "_law_right" [.par (potO own p1 0)] = some (.bl true, [ys]) := fun i hi => by
    obtain ⟨own, p1, hp, e1⟩ := s_pot (fu := 100000) (n := 10) (ns := ns) hi
    obtain ⟨ys, e2⟩ := s_right (fu := 100000) (n := 0) hp (by decide)
    exact ⟨own, p1, ys, e1, e2⟩
  obtain ⟨o0, q0, y0, a0, b0⟩ := cell 0 (by decide)
  obtain ⟨o1, q1, y1, a1, b1⟩ := cell 1 (by decide)
  rw [ev1 (dd := d_law) (by kernel_rfl)]
  unfold d_law
  have cs : m = 0 ∨ m = 1 ∨ m = 2 := by omega
  rcases cs with rfl | rfl | rfl
  · have r : ran 0 = [] := rfl
    rw [r] at ec
    simp [evE, evT, evL, evA, evO, evAr, evS, evD, putS, peek, mutS, setM, opB, opC, opF, opIx, opSl, walk, unpS, bindT, refs, argS, putBack, permA, outsOf, atI, ixN, tru, setJ, ec, compL, lim, boolsD]
  · have r : ran 1 = [.int 0] := rfl
    rw [r] at ec
    simp [evE, evT, evL, evA, evO, evAr, evS, evD, putS, peek, mutS, setM, opB, opC, opF, opIx, opSl, walk, unpS, bindT, refs, argS, putBack, permA, outsOf, atI, ixN, tru, setJ] at a0
    simp [evE, evT, evL, evA, evO, evAr, evS, evD, putS, peek, mutS, setM, opB, opC, opF, opIx, opSl, walk, unpS, bindT, refs, argS, putBack, permA, outsOf, atI, ixN, tru, setJ, ec, compL, wipeE, backE, lim, boolsD, a0, b0]
  · have r : ran 2 = [.int 0, .int 1] := rfl
    rw [r] at ec
    simp [evE, evT, evL, evA, evO, evAr, evS, evD, putS, peek, mutS, setM, opB, opC, opF, opIx, opSl, walk, unpS, bindT, refs, argS, putBack, permA, outsOf, atI, ixN, tru, setJ] at a0 a1
    simp [evE, evT, evL, evA, evO, evAr, evS, evD, putS, peek, mutS, setM, opB, opC, opF, opIx, opSl, walk, unpS, bindT, refs, argS, putBack, permA, outsOf, atI, ixN, tru, setJ, ec, compL, wipeE, backE, lim, boolsD, a0, b0, a1, b1]
end L09

open L09 Mn L2
open PySem PySem.W PyProof.Rows in
set_option maxHeartbeats 0 in
theorem PySem.Challenge.cw_crewclocks_k09_whole_flights_with_a_wish_holds : PySem.Challenge.rw_crewclocks_k09_whole_flights_with_a_wish.Holds := by
  w_on; o_law; k_head; (case hw => w_witness2)
  k_fill
  refine Mn.walkG (l := PySem.Challenge.rw_crewclocks_k09_whole_flights_with_a_wish) (n := 63) (k := 25) (x := "script") (sp := fun w => spF _ (evF T 100000 12) "law" 1) rfl (by decide) rfl ⟨rfl, by decide, by decide⟩ (fun w h Y => PySem.W.kIn_of Y) ?F (fun w H a ns hl ho hs => sp_law (math ns hl) ho hs)
  case F =>
    intro w mg fa h KX Gm hmg
    obtain e_is_plain_integer : ∃ fa, FAt _ "is_plain_integer" (topS 10) fa := by
      refine' FAt.mk' (f := "is_plain_integer") (st := topS 10) KX ?a ?l ?c ?k
      (case a => k_is); (case l => k_is); (case c => k_is); (case k => k_is)
    obtain e_is_fraction : ∃ fa, FAt _ "is_fraction" (topS 11) fa := by
      refine' FAt.mk' (f := "is_fraction") (st := topS 11) KX ?a ?l ?c ?k
      (case a => k_is); (case l => k_is); (case c => k_is); (case k => k_is)
    obtain e_is_above_zero : ∃ fa, FAt _ "is_above_zero" (topS 12) fa := by
      refine' FAt.mk' (f := "is_above_zero") (st := topS 12) KX ?a ?l ?c ?k
      (case a => k_is); (case l => k_is); (case c => k_is); (case k => k_is)
    obtain e_is_time : ∃ fa, FAt _ "is_time" (topS 13) fa := by
      refine' FAt.mk' (f := "is_time") (st := topS 13) KX ?a ?l ?c ?k
      (case a => k_is); (case l => k_is); (case c => k_is); (case k => k_is)
    obtain e_in_least_terms : ∃ fa, FAt _ "in_least_terms" (topS 14) fa := by
      refine' FAt.mk' (f := "in_least_terms") (st := topS 14) KX ?a ?l ?c ?k
      (case a => k_is); (case l => k_is); (case c => k_is); (case k => k_is)
    obtain e_added : ∃ fa, FAt _ "added" (topS 15) fa := by
      refine' FAt.mk' (f := "added") (st := topS 15) KX ?a ?l ?c ?k
      (case a => k_is); (case l => k_is); (case c => k_is); (case k => k_is)
    obtain e_subtracted : ∃ fa, FAt _ "subtracted" (topS 16) fa := by
      refine' FAt.mk' (f := "subtracted") (st := topS 16) KX ?a ?l ?c ?k
      (case a => k_is); (case l => k_is); (case c => k_is); (case k => k_is)
    obtain e_multiplied : ∃ fa, FAt _ "multiplied" (topS 17) fa := by
      refine' FAt.mk' (f := "multiplied") (st := topS 17) KX ?a ?l ?c ?k
      (case a => k_is); (case l => k_is); (case c => k_is); (case k => k_is)
    obtain e_divided : ∃ fa, FAt _ "divided" (topS 18) fa := by
      refine' FAt.mk' (f := "divided") (st := topS 18) KX ?a ?l ?c ?k
      (case a => k_is); (case l => k_is); (case c => k_is); (case k => k_is)
    obtain e_is_less : ∃ fa, FAt _ "is_less" (topS 19) fa := by
      refine' FAt.mk' (f := "is_less") (st := topS 19) KX ?a ?l ?c ?k
      (case a => k_is); (case l => k_is); (case c => k_is); (case k => k_is)
    obtain e_inverse : ∃ fa, FAt _ "inverse" (topS 20) fa := by
      refine' FAt.mk' (f := "inverse") (st := topS 20) KX ?a ?l ?c ?k
      (case a => k_is); (case l => k_is); (case c => k_is); (case k => k_is)
    obtain e_is_same : ∃ fa, FAt _ "is_same" (topS 21) fa := by
      refine' FAt.mk' (f := "is_same") (st := topS 21) KX ?a ?l ?c ?k
      (case a => k_is); (case l => k_is); (case c => k_is); (case k => k_is)
    obtain e_is_event : ∃ fa, FAt _ "is_event" (topS 23) fa := by
      refine' FAt.mk' (f := "is_event") (st := topS 23) KX ?a ?l ?c ?k
      (case a => k_is); (case l => k_is); (case c => k_is); (case k => k_is)
    obtain e_check_event : ∃ fa, FAt _ "check_event" (topS 24) fa := by
      refine' FAt.mk' (f := "check_event") (st := topS 24) KX ?a ?l ?c ?k
      (case a => k_is); (case l => k_is); (case c => k_is); (case k => k_is)
    obtain e_growth : ∃ fa, FAt _ "growth" (topS 25) fa := by
      refine' FAt.mk' (f := "growth") (st := topS 25) KX ?a ?l ?c ?k
      (case a => k_is); (case l => k_is); (case c => k_is); (case k => k_is)
    obtain e_flown : ∃ fa, FAt _ "flown" (topS 26) fa := by
      refine' FAt.mk' (f := "flown") (st := topS 26) KX ?a ?l ?c ?k
      (case a => k_is); (case l => k_is); (case c => k_is); (case k => k_is)
    obtain e_check_most : ∃ fa, FAt _ "check_most" (topS 28) fa := by
      refine' FAt.mk' (f := "check_most") (st := topS 28) KX ?a ?l ?c ?k
      (case a => k_is); (case l => k_is); (case c => k_is); (case k => k_is)
    obtain e_check_own_time : ∃ fa, FAt _ "check_own_time" (topS 29) fa := by
      refine' FAt.mk' (f := "check_own_time") (st := topS 29) KX ?a ?l ?c ?k
      (case a => k_is); (case l => k_is); (case c => k_is); (case k => k_is)
    obtain e_reach : ∃ fa, FAt _ "reach" (topS 30) fa := by
      refine' FAt.mk' (f := "reach") (st := topS 30) KX ?a ?l ?c ?k
      (case a => k_is); (case l => k_is); (case c => k_is); (case k => k_is)
    obtain e_to_and_fro : ∃ fa, FAt _ "to_and_fro" (topS 31) fa := by
      refine' FAt.mk' (f := "to_and_fro") (st := topS 31) KX ?a ?l ?c ?k
      (case a => k_is); (case l => k_is); (case c => k_is); (case k => k_is)
    obtain e_flown_pieces : ∃ fa, FAt _ "flown_pieces" (topS 32) fa := by
      refine' FAt.mk' (f := "flown_pieces") (st := topS 32) KX ?a ?l ?c ?k
      (case a => k_is); (case l => k_is); (case c => k_is); (case k => k_is)
    obtain e_is_plan : ∃ fa, FAt _ "is_plan" (topS 33) fa := by
      refine' FAt.mk' (f := "is_plan") (st := topS 33) KX ?a ?l ?c ?k
      (case a => k_is); (case l => k_is); (case c => k_is); (case k => k_is)
    obtain e_is_piece : ∃ fa, FAt _ "is_piece" (topS 34) fa := by
      refine' FAt.mk' (f := "is_piece") (st := topS 34) KX ?a ?l ?c ?k
      (case a => k_is); (case l => k_is); (case c => k_is); (case k => k_is)
    obtain e_is_within : ∃ fa, FAt _ "is_within" (topS 35) fa := by
      refine' FAt.mk' (f := "is_within") (st := topS 35) KX ?a ?l ?c ?k
      (case a => k_is); (case l => k_is); (case c => k_is); (case k => k_is)
    obtain e_leads : ∃ fa, FAt _ "leads" (topS 36) fa := by
      refine' FAt.mk' (f := "leads") (st := topS 36) KX ?a ?l ?c ?k
      (case a => k_is); (case l => k_is); (case c => k_is); (case k => k_is)
    obtain e_check_plan : ∃ fa, FAt _ "check_plan" (topS 37) fa := by
      refine' FAt.mk' (f := "check_plan") (st := topS 37) KX ?a ?l ?c ?k
      (case a => k_is); (case l => k_is); (case c => k_is); (case k => k_is)
    obtain e_least_own : ∃ fa, FAt _ "least_own" (topS 38) fa := by
      refine' FAt.mk' (f := "least_own") (st := topS 38) KX ?a ?l ?c ?k
      (case a => k_is); (case l => k_is); (case c => k_is); (case k => k_is)
    obtain e_own_flight : ∃ fa, FAt _ "own_flight" (topS 39) fa := by
      refine' FAt.mk' (f := "own_flight") (st := topS 39) KX ?a ?l ?c ?k
      (case a => k_is); (case l => k_is); (case c => k_is); (case k => k_is)
    obtain e_then_straight : ∃ fa, FAt _ "then_straight" (topS 40) fa := by
      refine' FAt.mk' (f := "then_straight") (st := topS 40) KX ?a ?l ?c ?k
      (case a => k_is); (case l => k_is); (case c => k_is); (case k => k_is)
    obtain e_shows_own_flight : ∃ fa, FAt _ "shows_own_flight" (topS 41) fa := by
      refine' FAt.mk' (f := "shows_own_flight") (st := topS 41) KX ?a ?l ?c ?k
      (case a => k_is); (case l => k_is); (case c => k_is); (case k => k_is)
    obtain e__law_pot : ∃ fa, FAt _ "_law_pot" (topS 43) fa := by
      refine' FAt.mk' (f := "_law_pot") (st := topS 43) KX ?a ?l ?c ?k
      (case a => k_is); (case l => k_is); (case c => k_is); (case k => k_is)
    obtain e__law_take : ∃ fa, FAt _ "_law_take" (topS 44) fa := by
      refine' FAt.mk' (f := "_law_take") (st := topS 44) KX ?a ?l ?c ?k
      (case a => k_is); (case l => k_is); (case c => k_is); (case k => k_is)
    obtain e__law_of : ∃ fa, FAt _ "_law_of" (topS 45) fa := by
      refine' FAt.mk' (f := "_law_of") (st := topS 45) KX ?a ?l ?c ?k
      (case a => k_is); (case l => k_is); (case c => k_is); (case k => k_is)
    obtain e__law_cells : ∃ fa, FAt _ "_law_cells" (topS 46) fa := by
      refine' FAt.mk' (f := "_law_cells") (st := topS 46) KX ?a ?l ?c ?k
      (case a => k_is); (case l => k_is); (case c => k_is); (case k => k_is)
    obtain e__law_frac_common : ∃ fa, FAt _ "_law_frac_common" (topS 47) fa := by
      refine' FAt.mk' (f := "_law_frac_common") (st := topS 47) KX ?a ?l ?c ?k
      (case a => k_is); (case l => k_is); (case c => k_is); (case k => k_is)
    obtain e__law_frac : ∃ fa, FAt _ "_law_frac" (topS 48) fa := by
      refine' FAt.mk' (f := "_law_frac") (st := topS 48) KX ?a ?l ?c ?k
      (case a => k_is); (case l => k_is); (case c => k_is); (case k => k_is)
    obtain e__law_frac_plus : ∃ fa, FAt _ "_law_frac_plus" (topS 49) fa := by
      refine' FAt.mk' (f := "_law_frac_plus") (st := topS 49) KX ?a ?l ?c ?k
      (case a => k_is); (case l => k_is); (case c => k_is); (case k => k_is)
    obtain e__law_frac_less : ∃ fa, FAt _ "_law_frac_less" (topS 50) fa := by
      refine' FAt.mk' (f := "_law_frac_less") (st := topS 50) KX ?a ?l ?c ?k
      (case a => k_is); (case l => k_is); (case c => k_is); (case k => k_is)
    obtain e__law_frac_times : ∃ fa, FAt _ "_law_frac_times" (topS 51) fa := by
      refine' FAt.mk' (f := "_law_frac_times") (st := topS 51) KX ?a ?l ?c ?k
      (case a => k_is); (case l => k_is); (case c => k_is); (case k => k_is)
    obtain e__law_frac_over : ∃ fa, FAt _ "_law_frac_over" (topS 52) fa := by
      refine' FAt.mk' (f := "_law_frac_over") (st := topS 52) KX ?a ?l ?c ?k
      (case a => k_is); (case l => k_is); (case c => k_is); (case k => k_is)
    obtain e__law_frac_is_less : ∃ fa, FAt _ "_law_frac_is_less" (topS 53) fa := by
      refine' FAt.mk' (f := "_law_frac_is_less") (st := topS 53) KX ?a ?l ?c ?k
      (case a => k_is); (case l => k_is); (case c => k_is); (case k => k_is)
    obtain e__law_frac_sum : ∃ fa, FAt _ "_law_frac_sum" (topS 54) fa := by
      refine' FAt.mk' (f := "_law_frac_sum") (st := topS 54) KX ?a ?l ?c ?k
      (case a => k_is); (case l => k_is); (case c => k_is); (case k => k_is)
    obtain e__law_frac_is : ∃ fa, FAt _ "_law_frac_is" (topS 55) fa := by
      refine' FAt.mk' (f := "_law_frac_is") (st := topS 55) KX ?a ?l ?c ?k
      (case a => k_is); (case l => k_is); (case c => k_is); (case k => k_is)
    obtain e__law_frac_is_pace : ∃ fa, FAt _ "_law_frac_is_pace" (topS 56) fa := by
      refine' FAt.mk' (f := "_law_frac_is_pace") (st := topS 56) KX ?a ?l ?c ?k
      (case a => k_is); (case l => k_is); (case c => k_is); (case k => k_is)
    obtain e__law_frac_drawn : ∃ fa, FAt _ "_law_frac_drawn" (topS 57) fa := by
      refine' FAt.mk' (f := "_law_frac_drawn") (st := topS 57) KX ?a ?l ?c ?k
      (case a => k_is); (case l => k_is); (case c => k_is); (case k => k_is)
    obtain e__law_frac_time : ∃ fa, FAt _ "_law_frac_time" (topS 58) fa := by
      refine' FAt.mk' (f := "_law_frac_time") (st := topS 58) KX ?a ?l ?c ?k
      (case a => k_is); (case l => k_is); (case c => k_is); (case k => k_is)
    obtain e__law_event_drawn : ∃ fa, FAt _ "_law_event_drawn" (topS 59) fa := by
      refine' FAt.mk' (f := "_law_event_drawn") (st := topS 59) KX ?a ?l ?c ?k
      (case a => k_is); (case l => k_is); (case c => k_is); (case k => k_is)
    obtain e__law_event_gone : ∃ fa, FAt _ "_law_event_gone" (topS 60) fa := by
      refine' FAt.mk' (f := "_law_event_gone") (st := topS 60) KX ?a ?l ?c ?k
      (case a => k_is); (case l => k_is); (case c => k_is); (case k => k_is)
    obtain e__law_event_more : ∃ fa, FAt _ "_law_event_more" (topS 61) fa := by
      refine' FAt.mk' (f := "_law_event_more") (st := topS 61) KX ?a ?l ?c ?k
      (case a => k_is); (case l => k_is); (case c => k_is); (case k => k_is)
    obtain e__law_is : ∃ fa, FAt _ "_law_is" (topS 62) fa := by
      refine' FAt.mk' (f := "_law_is") (st := topS 62) KX ?a ?l ?c ?k
      (case a => k_is); (case l => k_is); (case c => k_is); (case k => k_is)
    obtain e__law_within_ends : ∃ fa, FAt _ "_law_within_ends" (topS 63) fa := by
      refine' FAt.mk' (f := "_law_within_ends") (st := topS 63) KX ?a ?l ?c ?k
      (case a => k_is); (case l => k_is); (case c => k_is); (case k => k_is)
    obtain e__law_within_pace : ∃ fa, FAt _ "_law_within_pace" (topS 64) fa := by
      refine' FAt.mk' (f := "_law_within_pace") (st := topS 64) KX ?a ?l ?c ?k
      (case a => k_is); (case l => k_is); (case c => k_is); (case k => k_is)
    obtain e__law_within_word : ∃ fa, FAt _ "_law_within_word" (topS 65) fa := by
      refine' FAt.mk' (f := "_law_within_word") (st := topS 65) KX ?a ?l ?c ?k
      (case a => k_is); (case l => k_is); (case c => k_is); (case k => k_is)
    obtain e__law_within_leads : ∃ fa, FAt _ "_law_within_leads" (topS 66) fa := by
      refine' FAt.mk' (f := "_law_within_leads") (st := topS 66) KX ?a ?l ?c ?k
      (case a => k_is); (case l => k_is); (case c => k_is); (case k => k_is)
    obtain e__law_within_least : ∃ fa, FAt _ "_law_within_least" (topS 67) fa := by
      refine' FAt.mk' (f := "_law_within_least") (st := topS 67) KX ?a ?l ?c ?k
      (case a => k_is); (case l => k_is); (case c => k_is); (case k => k_is)
    obtain e__law_root : ∃ fa, FAt _ "_law_root" (topS 68) fa := by
      refine' FAt.mk' (f := "_law_root") (st := topS 68) KX ?a ?l ?c ?k
      (case a => k_is); (case l => k_is); (case c => k_is); (case k => k_is)
    obtain e__law_wished : ∃ fa, FAt _ "_law_wished" (topS 69) fa := by
      refine' FAt.mk' (f := "_law_wished") (st := topS 69) KX ?a ?l ?c ?k
      (case a => k_is); (case l => k_is); (case c => k_is); (case k => k_is)
    obtain e__law_is_wish_right : ∃ fa, FAt _ "_law_is_wish_right" (topS 70) fa := by
      refine' FAt.mk' (f := "_law_is_wish_right") (st := topS 70) KX ?a ?l ?c ?k
      (case a => k_is); (case l => k_is); (case c => k_is); (case k => k_is)
    obtain e__law_right : ∃ fa, FAt _ "_law_right" (topS 71) fa := by
      refine' FAt.mk' (f := "_law_right") (st := topS 71) KX ?a ?l ?c ?k
      (case a => k_is); (case l => k_is); (case c => k_is); (case k => k_is)
    obtain e_law : ∃ fa, FAt _ "law" (topS 72) fa := by
      refine' FAt.mk' (f := "law") (st := topS 72) KX ?a ?l ?c ?k
      (case a => k_is); (case l => k_is); (case c => k_is); (case k => k_is)
    obtain c_ONE : CAt2 _ "ONE" 1 1 := by
      refine' CAt2.mk' KX ?a ?l
      (case a => k_is); (case l => k_is)
    obtain c_ZERO : CAt2 _ "ZERO" 0 1 := by
      refine' CAt2.mk' KX ?a ?l
      (case a => k_is); (case l => k_is)
    have M : Mod _ mg G T 100000 := mod_mk KX Gm e_is_plain_integer e_is_fraction e_is_above_zero e_is_time e_in_least_terms e_added e_subtracted e_multiplied e_divided e_is_less e_inverse e_is_same e_is_event e_check_event e_growth e_flown e_check_most e_check_own_time e_reach e_to_and_fro e_flown_pieces e_is_plan e_is_piece e_is_within e_leads e_check_plan e_least_own e_own_flight e_then_straight e_shows_own_flight e__law_pot e__law_take e__law_of e__law_cells e__law_frac_common e__law_frac e__law_frac_plus e__law_frac_less e__law_frac_times e__law_frac_over e__law_frac_is_less e__law_frac_sum e__law_frac_is e__law_frac_is_pace e__law_frac_drawn e__law_frac_time e__law_event_drawn e__law_event_gone e__law_event_more e__law_is e__law_within_ends e__law_within_pace e__law_within_word e__law_within_leads e__law_within_least e__law_root e__law_wished e__law_is_wish_right e__law_right e_law (by k_is) (by k_is) (by k_is) (by k_is) (by k_is) (by k_is) (by k_is) (by k_is) (by k_is) (by k_is) (by k_is) (by k_is) (by k_is) (by k_is) (by k_is) c_ONE c_ZERO 
    exact law_fin (dd := d_law) (lv := 11) M KX Gm e_law (by kernel_rfl) rfl sc_law ck_law rfl (fun _ _ _ _ _ _ us hl => match us, hl with | [_], _ => rfl) hmg
